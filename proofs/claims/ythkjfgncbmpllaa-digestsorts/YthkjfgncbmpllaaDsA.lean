
import Derived.Test.YthkjfgncbmpllaaDsL
import Derived.Test.YthkjfgncbmpllaaDsW
import Derived.Test.YthkjfgncbmpllaaDigK3
namespace Go.Proofs.Ythkjfgncbmpllaa
open Go.RowKit

/-! append(v, l...) of digests -/
theorem IsDs.cells {w : World} {b o n c : Nat} {ds : List Dg} (h : IsDs w (.slice (some ⟨b, o, none⟩) n c) ds) : ∀ (j : Nat) (u : Value), (flatD ds)[j]? = some u → w.cell? ⟨b, o + j, none⟩ = some u := by
  intro j u hj
  have hlt : j < ds.length * 32 := by have := (List.getElem?_eq_some_iff.1 hj).1; rwa [flatD_len] at this
  obtain ⟨d, hd⟩ : ∃ d, ds[j / 32]? = some d := ⟨ds[j / 32]'(by omega), List.getElem?_eq_getElem (by omega)⟩
  obtain ⟨y, e, he, -, hx⟩ := h
  simp only [Value.slice.injEq] at he
  obtain ⟨rfl, -, rfl⟩ := he
  obtain ⟨b', o', he', -, hr⟩ := hx (j / 32) d hd
  simp only [Option.some.injEq, Addr.mk.injEq, and_true] at he'
  obtain ⟨rfl, rfl⟩ := he'
  have h32 : j % 32 < 32 := by omega
  have hu := flatD_get ds (j / 32) d hd (j % 32) _ (by rw [Array.getElem?_toList, dg_secA_get d _ h32])
  rw [show j / 32 * 32 + j % 32 = j by omega, hj] at hu
  have := hr (j % 32) u (by rw [Array.getElem?_toList, dg_secA_get d _ h32]; exact hu.symm)
  rw [show o + j / 32 * 32 + j % 32 = o + j by omega] at this
  exact this
set_option linter.unusedSimpArgs false in
theorem run_app_nilD (w : World) (x : Option Addr) (c : Nat) (ty : TypeId) :
    (Builtin.append_ #[31, 31] ty #[.slice none 0 0, .slice x 0 c]).run Try.prog w = .ok (.slice none 0 0) w := by
  obtain ⟨i, hi, hzz⟩ := Option.map_eq_some_iff.1 infoDg
  simp only [Prod.mk.injEq] at hzz
  obtain ⟨hz, hs, hby⟩ := hzz
  cases x with
  | none => simp [Builtin.append_, run_underlying Try.underlying31, sizeOf, typeInfo, hi, hs, Builtin.lenOf, Builtin.firstCells]
  | some a => simp [Builtin.append_, run_underlying Try.underlying31, sizeOf, typeInfo, hi, hs, Builtin.lenOf, Builtin.firstCells, loadCells, loadCellsFrom]
theorem run_app_moreD (w : World) (B : Nat) (v : Value) (es : List Dg) (x : Option Addr) (c : Nat) (ds : List Dg) (ty : TypeId) (hv : OwnDs w B v es) (h : IsDs w (.slice x ds.length c) ds) (h0 : ds ≠ []) (hl : (es.length + ds.length) * 32 ≤ 140737488355328) (hb : B ≤ w.heap.size) :
    ∃ v' w', (Builtin.append_ #[31, 31] ty #[v, .slice x ds.length c]).run Try.prog w = .ok v' w' ∧ OwnDs w' B v' (es ++ ds) ∧ w.grownBy w' v.ownBlock ∧ Below B w w' := by
  obtain ⟨i, hi, hzz⟩ := Option.map_eq_some_iff.1 infoDg
  simp only [Prod.mk.injEq] at hzz
  obtain ⟨hz, hs, hby⟩ := hzz
  have hp : 0 < ds.length := List.length_pos_iff.2 h0
  obtain ⟨b, o, rfl, -, -, -⟩ := h.at 0 _ (List.getElem?_eq_getElem hp)
  obtain ⟨g, cap, w', hr, h2, h3, h4, h5⟩ := run_append_lies (P := Try.prog) w 31 ty B 23 i _ 32 32 Try.underlying31 hi hz hs hby (by simp [Value.cells]) (by omega) v es.length (flatD es) hv ⟨b, o, none⟩ ds.length c (flatD ds) (flatD_len ds)
    (fun j u hu => by rw [addr_add]; exact h.cells j u hu) (flatD_one ds) hp (by unfold maxLen; omega) hl hb _ rfl
  refine ⟨_, w', hr, ?_, h3, ⟨h3.os, h3.tape, h3.output, h3.size, fun k hk => h3.block k (by omega) (fun q => by have := World.ownsRow.lt hv k q.symm; omega)⟩⟩
  unfold OwnDs
  rw [List.length_append, flatD_app]
  exact h2
end Go.Proofs.Ythkjfgncbmpllaa
