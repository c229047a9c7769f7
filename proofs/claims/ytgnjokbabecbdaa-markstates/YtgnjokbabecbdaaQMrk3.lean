import Derived.Test.YtgnjokbabecbdaaQMrk2
import Derived.Test.YtgnjokbabecbdaaQCrcS
namespace Go.Proofs.Ytgnjokbabecbdaa
open Go.RowKit

/-! mark.sumOf -/
def mkV9 (x y : Value) : Sem Next := do pure (.value (← Instr.makeSlice 76 x y))
@[go_sem ↓] theorem execOp_mkV9 (ρ : Operand → Value) (dst : Option Tmp) (ty : TypeId) (pos : String) (after : Array Edge) (guard : Option (Nat × Bool)) (x y : Operand) : execOp ρ { dst, op := .makeSlice 76 x y, type := ty, pos, after, guard } = mkV9 (ρ x) (ρ y) := rfl
/-- The parts when the first i are laid. -/
def ptA (bl of L i : Nat) : Array Value := ((List.range L).map fun k => if k < i then Value.slice (some ⟨bl, of + k * 65 + 1, none⟩) 64 64 else .slice none 0 0).toArray
@[go_sem] theorem ptA_size (bl of L i : Nat) : (ptA bl of L i).size = L := by simp [ptA]
theorem ptA_get (bl of L i k : Nat) (h : k < L) : (ptA bl of L i)[k]? = some (if k < i then Value.slice (some ⟨bl, of + k * 65 + 1, none⟩) 64 64 else .slice none 0 0) := by simp [ptA, h]
theorem ptA_set (bl of L i : Nat) (_h : i < L) : (ptA bl of L i).setIfInBounds i (.slice (some ⟨bl, of + i * 65 + 1, none⟩) 64 64) = ptA bl of L (i + 1) := by
  apply Array.ext_getElem?
  intro k
  by_cases hk : k < L
  · rw [Array.getElem?_setIfInBounds, ptA_size, ptA_get _ _ _ _ _ hk, ptA_get _ _ _ _ _ hk]
    by_cases hik : i = k
    · subst hik; simp [hk]
    · rw [if_neg hik]
      by_cases h3 : k < i
      · rw [if_pos h3, if_pos (by omega)]
      · rw [if_neg h3, if_neg (by omega)]
  · rw [Array.getElem?_eq_none (by simp [ptA_size]; omega), Array.getElem?_eq_none (by simp [ptA_size]; omega)]
theorem info_vs9 : (Try.prog.info? 57).map (fun i => (i.zero, i.size, i.bytes)) = some (some (.slice none 0 0), 1, 24) := by kernel_rfl
theorem run_mkV9 (w : World) (bl of n : Nat) (h : n ≤ 1000000) : (mkV9 (.int .i64 (n : Int)) (.int .i64 (n : Int))).run Try.prog w =
    .ok (.value (.slice (some ⟨w.heap.size, 0, none⟩) n n)) (w.alloc (.cells (ptA bl of n 0) 57)) := by
  obtain ⟨i, hi, hzz⟩ := Option.map_eq_some_iff.1 info_vs9
  simp only [Prod.mk.injEq] at hzz
  simp only [mkV9, Sem.run_bind]
  rw [run_make (P := Try.prog) w 76 57 i _ Try.underlying76 hi hzz.1 .i64 .i64 n n (by omega) (Int.le_refl _) (by rw [hzz.2.2]; omega) (by omega)]
  have e : madeCells #[Value.slice none 0 0] n = ptA bl of n 0 := by
    apply Array.ext_getElem?
    intro k
    by_cases hk : k < n
    · rw [ptA_get _ _ _ _ _ hk]; simp [madeCells, hk, Nat.mod_one]
    · rw [Array.getElem?_eq_none (by rw [size_madeCells]; omega), Array.getElem?_eq_none (by rw [ptA_size]; omega)]
  rw [hzz.2.1, Int.toNat_natCast, Nat.mul_one, show (Value.slice none 0 0).cells = #[Value.slice none 0 0] from rfl, e]
  rfl
def sumP (l : List Wr) (L : Nat) : List (List UInt8) := (List.range L).map fun k => kS (dtW l k)
theorem sumP_flat (l : List Wr) : ∀ L, (sumP l L).flatten = allU8 l L
  | 0 => rfl
  | L + 1 => by
    have ih := sumP_flat l L
    unfold sumP at ih ⊢
    rw [List.range_succ, List.map_append, List.flatten_append, ih, allU8]; simp
set_option linter.unusedSimpArgs false in
set_option maxHeartbeats 1000000 in
theorem sumOf_any (l : List Wr) (x : Option Addr) (L c : Nat) (w : World) (hL : l.length = L) (hL1 : 1 ≤ L) (hL8 : L ≤ 8) (hl : IsK wrE w (.slice x L c) l) :
    Calls Try.prog 32 #[.slice x L c] w fun r w' => r = .returned (.int .u32 (((mSum l).toNat : Nat) : Int)) ∧ Below w.heap.size w w' := by
  obtain ⟨bl, of, rfl⟩ : ∃ bl of, x = some ⟨bl, of, none⟩ := by
    obtain ⟨b, o, e, -⟩ := hl.at 0 _ (List.getElem?_eq_getElem (by omega))
    exact ⟨b, o, e⟩
  have hcell : ∀ i, i < L → ∀ W, Below w.heap.size w W → ∀ j, j < 64 → W.cell? ⟨bl, of + i * 65 + 1 + j, none⟩ = some (.int .u8 ((dtW l i j).toNat : Int)) := fun i hi W hW => by
    have hg : l[i]? = some (l.getD i wrZ) := by rw [List.getD_eq_getElem?_getD, List.getElem?_eq_getElem (by omega)]; rfl
    obtain ⟨b, o, e, hb, hr⟩ := (hl.kept hW).at i _ hg
    simp only [Option.some.injEq, Addr.mk.injEq, and_true] at e
    obtain ⟨rfl, rfl⟩ := e
    exact (wr_at hr).2
  have hmk := run_mkV9 w bl of L (by omega)
  have HS : Hid (Calls Try.prog 42 #[.slice (some ⟨w.heap.size, 0, none⟩) L L] (w.alloc (.cells (ptA bl of L L) 57)) fun e w' => e = .returned (.int .u32 (((mSum l).toNat : Nat) : Int)) ∧ Below (w.alloc (.cells (ptA bl of L L) 57)).heap.size (w.alloc (.cells (ptA bl of L L) 57)) w') := by
    show Calls _ _ _ _ _
    have hlen : (sumP l L).length = L := by simp [sumP]
    have h1 := sum_any (.slice (some ⟨w.heap.size, 0, none⟩) (sumP l L).length L) (sumP l L) (w.alloc (.cells (ptA bl of L L) 57)) (by rw [hlen]; unfold maxLen; omega) (fun q hq => by
      obtain ⟨k, -, rfl⟩ := List.mem_map.1 hq
      simp [kS, maxLen]) (.inr ⟨_, L, rfl, fun i hi => by
        rw [hlen] at hi
        refine ⟨.slice (some ⟨bl, of + i * 65 + 1, none⟩) 64 64, ?_, ?_⟩
        · have hadd : (⟨w.heap.size, 0, none⟩ : Addr).add i = ⟨w.heap.size, i, none⟩ := by unfold Addr.add; split <;> simp_all
          rw [hadd, (RowC.new w (ptA bl of L L) 57).cell i, ptA_get _ _ _ _ _ hi, if_pos hi]
        · have hget : (sumP l L)[i]'(by rw [hlen]; exact hi) = kS (dtW l i) := by simp [sumP]
          rw [hget]
          have hk64 : (kS (dtW l i)).length = 64 := by simp [kS]
          refine .inr ⟨⟨bl, of + i * 65 + 1, none⟩, 64, by rw [hk64], fun j hj => ?_⟩
          have hadd : (⟨bl, of + i * 65 + 1, none⟩ : Addr).add j = ⟨bl, of + i * 65 + 1 + j, none⟩ := by unfold Addr.add; split <;> simp_all
          rw [hk64] at hj
          rw [hadd, hcell i hi _ (below_alloc w _) j hj]
          have := kS_get (dtW l i) j hj
          simp only [List.getElem?_eq_some_iff] at this
          obtain ⟨_, h⟩ := this
          rw [h]⟩)
    rw [hlen, sumP_flat] at h1
    have e2 : mSum l = sumL (allU8 l L) := by unfold mSum; rw [hL]
    rw [e2]; exact h1
  clear hl hcell
  go_enter Try.func32, Try.ntmps32
  go_wp2_with fail
  go_loopw [10] (fun iv wr => ∃ i : Nat, i ≤ L ∧ iv = .int .i64 i ∧ wr = w.alloc (.cells (ptA bl of L i) 57)) (fun iv _ => L - (intOf iv).toNat)
  case atStart => exact ⟨0, by omega, rfl, rfl⟩
  case round =>
    clear hmk
    obtain ⟨i, hi, rfl, rfl⟩ := hrel
    by_cases hlt : i < L
    · have hk9 : (i : Int) < (L : Int) := by omega
      have hc := ptA_get bl of L i i hlt
      rw [if_neg (by omega)] at hc
      have HPS : Hid _ := ptA_set bl of L i hlt
      go_wp2_with fail
      go_roundw
      case rel => exact ⟨i + 1, by omega, by go_num, by rw [HPS.out]⟩
      case measure => simp [intOf]; omega
    · obtain rfl : L = i := by omega
      go_wp2_with (go_at_call 42; refine HS.out.mono ?_; rintro e w2 ⟨rfl, hB⟩)
      go_ret
      exact ⟨rfl, (below_alloc w _).trans (hB.mono (by simp))⟩
end Go.Proofs.Ytgnjokbabecbdaa
