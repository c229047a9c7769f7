
import Derived.Test.YtmdhgadmfcmecaaBurM
import Derived.Test.YtmdhgadmfcmecaaAppV
namespace Go.Proofs.Ytmdhgadmfcmecaa
open Go.RowKit

/-! A byte stored in a row, in a slice -/
theorem heap_setCell (w : World) (g i : Nat) (v : Value) (c : Array Value) (t : TypeId) (fr : Nat × Nat) (h : w.heap[g]? = some (.cells c t fr)) : (w.setCell ⟨g, i, none⟩ v).heap[g]? = some (.cells (c.setIfInBounds i v) t fr) := by
  unfold World.setCell
  rw [Array.getElem?_modify, if_pos rfl, h]
  rfl
theorem Row.set {w : World} {g : Nat} {s : Nat → UInt8} (h : Row w g s) (i : Nat) (b : UInt8) (x : Int) (hi : i < 64) (hx : x = (b.toNat : Int)) : Row (w.setCell ⟨g, i, none⟩ (.int .u8 x)) g (upd s i b) := by
  obtain ⟨t, hg, hs⟩ := row_of_ok h.1
  have e := heap_setCell w g i (.int .u8 x) _ t _ hg
  constructor
  · unfold rowOk; rw [e]; simp [hs]
  · have e2 : rowAt (w.setCell ⟨g, i, none⟩ (.int .u8 x)) g = (rowAt w g).setIfInBounds i (.int .u8 x) := by
      show (match (w.setCell ⟨g, i, none⟩ (.int .u8 x)).heap[g]? with | some (.cells c _ _) => c | _ => #[]) = _
      rw [e]
    rw [e2, h.2]; exact set_int s i x b hi hx
theorem IsB.set {w : World} {g o n c : Nat} {f : Nat → UInt8} (h : IsB w (.slice (some ⟨g, o, none⟩) n c) (subL f 0 n)) (j : Nat) (b : UInt8) (x : Int) (hj : j < n) (hx : x = (b.toNat : Int)) :
    IsB (w.setCell ⟨g, o + j, none⟩ (.int .u8 x)) (.slice (some ⟨g, o, none⟩) n c) (subL (upd f j b) 0 n) := by
  rcases h with ⟨h, _⟩ | ⟨y, d, he, hc⟩
  · cases h
  · simp only [Value.slice.injEq, Option.some.injEq] at he
    obtain ⟨rfl, _, rfl⟩ := he
    refine .inr ⟨⟨g, o, none⟩, c, by simp, fun i hi => ?_⟩
    have hin : i < n := by simpa using hi
    have h1 := hc i (by simpa using hin)
    rw [addr_add] at h1 ⊢
    rw [subL_get, Nat.zero_add] at h1 ⊢
    by_cases hij : i = j
    · subst hij
      rw [World.cell?_setCell_same (h := h1)]
      simp [upd, hx]
    · have hne : (⟨g, o + j, none⟩ : Addr) ≠ ⟨g, o + i, none⟩ := fun e => hij (by injection e; omega)
      rw [World.cell?_setCell_other (h := hne), h1]
      simp [upd, hij]
/-! append(nil, b...) -/
theorem run_app_nil0 (w : World) (x : Option Addr) (c : Nat) (ty : TypeId) (h : IsB w (.slice x 0 c) []) :
    (Builtin.append_ #[22, 22] ty #[.slice none 0 0, .slice x 0 c]).run Try.prog w = .ok (.slice none 0 0) w := by
  obtain ⟨i, hi, hzz⟩ := Option.map_eq_some_iff.1 info5
  simp only [Prod.mk.injEq] at hzz
  obtain ⟨hz, hs, hb⟩ := hzz
  have hsr := src_isB (l := []) h
  have e1 := hsr.len
  have e2 := hsr.cells
  simp only [List.length_nil] at e1 e2
  simp [Builtin.append_, run_underlying Try.underlying22, sizeOf, typeInfo, hi, e1, hs, e2]
theorem run_app_fresh (w : World) (base : Nat) (x : Option Addr) (c : Nat) (l : List UInt8) (ty : TypeId) (h : IsB w (.slice x l.length c) l) (hl : l.length ≤ 140737488355328) (hb : base ≤ w.heap.size) :
    ∃ v' w', (Builtin.append_ #[22, 22] ty #[.slice none 0 0, .slice x l.length c]).run Try.prog w = .ok v' w' ∧ OwnB w' base v' l ∧ Below base w w' ∧ w.heap.size ≤ w'.heap.size := by
  by_cases hn : l = []
  · subst hn
    exact ⟨_, _, run_app_nil0 w x c ty h, OwnB.nil _ _, Below.refl _ _, Nat.le_refl _⟩
  · obtain ⟨i, hi, hzz⟩ := Option.map_eq_some_iff.1 info5
    simp only [Prod.mk.injEq] at hzz
    obtain ⟨hz, hs, hby⟩ := hzz
    have hp : 0 < l.length := List.length_pos_iff.2 hn
    have hv : OwnB w base (.slice none 0 0) [] := OwnB.nil _ _
    rcases h with ⟨_, h⟩ | ⟨y, d, he, hc⟩
    · exact absurd h hn
    · simp only [Value.slice.injEq, true_and] at he
      obtain ⟨rfl, rfl⟩ := he
      obtain ⟨g, cap, w', hr, h2, h3, h4, h5⟩ := run_append_lies (P := Try.prog) w 22 ty base 5 i _ 1 1 Try.underlying22 hi hz hs hby rfl (by omega) (.slice none 0 0) 0 [] hv y l.length c (bytesA l).toList (by simp)
        (fun j u hu => by
          have hj : j < l.length := by have := (List.getElem?_eq_some_iff.1 hu).1; simpa using this
          rw [Array.getElem?_toList, bytesA_get l j hj] at hu
          rw [hc j hj]; exact hu) (bytesA_one l) hp (by unfold maxLen; omega) (by omega) hb _ rfl
      refine ⟨_, w', hr, ?_, below_grown hv h3 hb, h3.size⟩
      rw [Nat.zero_add, List.nil_append] at h2
      rw [Nat.zero_add]
      exact h2
theorem OwnB.form {w : World} {base : Nat} {v : Value} {l : List UInt8} (h : OwnB w base v l) (h0 : l ≠ []) : ∃ g c, v = .slice (some ⟨g, 0, none⟩) l.length c ∧ base ≤ g ∧ l.length ≤ c ∧ c ≤ maxLen := by
  obtain ⟨_, ⟨rfl, hn⟩ | ⟨g, cap, cur, rfl, hb, hg, hle, hm, hs, ht⟩⟩ := h
  · exact absurd (List.eq_nil_of_length_eq_zero hn) h0
  · exact ⟨g, cap, rfl, hb, hle, hm⟩
end Go.Proofs.Ytmdhgadmfcmecaa
