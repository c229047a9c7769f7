import Derived.Test.YtddmmmfpdmejbaaGreatDoorQJok
import Derived.Test.YtddmmmfpdmejbaaGreatDoorQJdp
import Derived.Test.YtddmmmfpdmejbaaGreatDoorQJfd
import Derived.Test.YtddmmmfpdmejbaaGreatDoorQJkr
namespace Go.Proofs.YtddmmmfpdmejbaaGreatDoor
open Go.RowKit

/-! What made and meant make: its size, its depth -/
theorem szL_md : ∀ (vs : List Nd), (∀ d ∈ vs, ∀ dep, szN (mdN d dep) ≤ szN d) → ∀ dep, szL (mdL vs dep) ≤ szL vs
  | [], _, _ => by rw [mdL]; exact Nat.le_refl _
  | d :: r, h, dep => by
    rw [mdL, szL, szL]
    have h1 := h d (by simp) dep
    have h2 := szL_md r (fun e he => h e (by simp [he])) dep
    omega
set_option linter.unusedSimpArgs false in
theorem mdN_sz : ∀ (d : Nd) (dep : Nat), szN (mdN d dep) ≤ szN d := Nd.ind fun k n s ks vs ih => fun dep => by
  have hL : szL (if dep < 12 then mdL vs (dep + 1) else []) ≤ szL vs := by
    split
    · exact szL_md vs ih (dep + 1)
    · rw [szL]; exact Nat.zero_le _
  rw [mdN_mk]
  generalize (if dep < 12 then mdL vs (dep + 1) else []) = L at hL ⊢
  unfold mdK
  split
  · simp only [szN_mk, szL, List.map_nil, List.sum_nil, List.length_nil]; omega
  split
  · simp only [szN_mk, szL, List.map_nil, List.sum_nil, List.length_nil]; omega
  split
  · simp only [szN_mk, szL, List.map_nil, List.sum_nil, List.length_nil]; omega
  split
  · simp only [szN_mk, szL, List.map_nil, List.sum_nil, List.length_nil]; omega
  split
  · simp only [szN_mk, szL, List.map_nil, List.sum_nil, List.length_nil]; omega
  · simp only [szN_mk, szL, List.map_nil, List.sum_nil, List.length_nil]; omega
theorem depL_md : ∀ (vs : List Nd) (m dep : Nat), (∀ d ∈ vs, depN (mdN d dep) ≤ m) → depL (mdL vs dep) ≤ m
  | [], m, dep, _ => by rw [mdL, depL]; exact Nat.zero_le _
  | d :: r, m, dep, h => by
    rw [mdL, depL]
    have h1 := h d (by simp)
    have h2 := depL_md r m dep (fun e he => h e (by simp [he]))
    omega
set_option linter.unusedSimpArgs false in
theorem mdN_dep : ∀ (d : Nd) (dep : Nat), dep ≤ 12 → depN (mdN d dep) ≤ 13 - dep := Nd.ind fun k n s ks vs ih => fun dep hd => by
  have hL : depL (if dep < 12 then mdL vs (dep + 1) else []) ≤ 12 - dep := by
    split
    · exact depL_md vs _ _ (fun d hm => by have := ih d hm (dep + 1) (by omega); omega)
    · rw [depL]; exact Nat.zero_le _
  rw [mdN_mk]
  generalize (if dep < 12 then mdL vs (dep + 1) else []) = L at hL ⊢
  unfold mdK
  have h0 : depL [] = 0 := rfl
  split
  · simp only [depN_mk, h0]; split <;> omega
  split
  · simp only [depN_mk, h0]; split <;> omega
  split
  · simp only [depN_mk, h0]; split <;> omega
  split
  · simp only [depN_mk]; split <;> omega
  split
  · simp only [depN_mk]; split <;> omega
  · simp only [depN_mk, h0]; split <;> omega
end Go.Proofs.YtddmmmfpdmejbaaGreatDoor
