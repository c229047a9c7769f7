import Derived.Test.YtfihpfaljjljhaaRef3
namespace Go.Proofs.Ytfihpfaljjljhaa
open Go.RowKit

theorem ownB_empty (w : World) : OwnB (w.alloc (.cells #[] 5)) w.heap.size (.slice (some ⟨w.heap.size, 0, none⟩) 0 0) [] :=
  ⟨by simp [bytesA], .inr ⟨w.heap.size, 0, #[], rfl, Nat.le_refl _, heap_alloc_last w _, Nat.le_refl _, by simp [maxLen], rfl, by simp [bytesA]⟩⟩
theorem run_app_own (w : World) (base : Nat) (v : Value) (x : Option Addr) (c : Nat) (l : List UInt8) (ty : TypeId) (hv : OwnB w base v []) (hg : ∃ g, v = .slice (some ⟨g, 0, none⟩) 0 0) (h : IsB w (.slice x l.length c) l) (hl : l.length ≤ 140737488355328) (hb : base ≤ w.heap.size) :
    ∃ v' w', (Builtin.append_ #[28, 28] ty #[v, .slice x l.length c]).run Try.prog w = .ok v' w' ∧ OwnB w' base v' l ∧ Below base w w' ∧ w.heap.size ≤ w'.heap.size := by
  by_cases hn : l = []
  · subst hn
    obtain ⟨g, rfl⟩ := hg
    exact ⟨_, _, run_app_nil w g x c ty h, hv, Below.refl _ _, Nat.le_refl _⟩
  · obtain ⟨i, hi, hzz⟩ := Option.map_eq_some_iff.1 info5
    simp only [Prod.mk.injEq] at hzz
    obtain ⟨hz, hs, hby⟩ := hzz
    have hp : 0 < l.length := List.length_pos_iff.2 hn
    rcases h with ⟨_, h⟩ | ⟨y, d, he, hc⟩
    · exact absurd h hn
    · simp only [Value.slice.injEq, true_and] at he
      obtain ⟨rfl, rfl⟩ := he
      obtain ⟨g, cap, w', hr, h2, h3, h4, h5⟩ := run_append_lies (P := Try.prog) w 28 ty base 5 i _ 1 1 Try.underlying28 hi hz hs hby rfl (by omega) v 0 [] hv y l.length c (bytesA l).toList (by simp)
        (fun j u hu => by
          have hj : j < l.length := by have := (List.getElem?_eq_some_iff.1 hu).1; simpa using this
          rw [Array.getElem?_toList, bytesA_get l j hj] at hu
          rw [hc j hj]; exact hu) (bytesA_one l) hp (by unfold maxLen; omega) (by omega) hb _ rfl
      refine ⟨_, w', hr, ?_, below_grown hv h3 hb, h3.size⟩
      rw [Nat.zero_add, List.nil_append] at h2
      rw [Nat.zero_add]
      exact h2
theorem OwnB.form {w : World} {base : Nat} {v : Value} {l : List UInt8} (h : OwnB w base v l) (h0 : l ≠ []) : ∃ g c, v = .slice (some ⟨g, 0, none⟩) l.length c ∧ base ≤ g ∧ l.length ≤ c ∧ c ≤ maxLen := by
  obtain ⟨_, ⟨rfl, hn⟩ | ⟨g, cap, cur, rfl, hb, hg, hle, hm, hs, ht⟩⟩ := h
  · exact absurd (List.eq_nil_of_length_eq_zero hn) h0
  · exact ⟨g, cap, rfl, hb, hle, hm⟩
set_option maxHeartbeats 400000 in
theorem lent_any (v : Value) (l : List UInt8) (w : World) (hl : l.length + 1 ≤ 140737488355328) (hv : IsB w v l) :
    Calls Try.prog 20 #[v] w fun e w' => ∃ g c, e = .returned (.slice (some ⟨g, 0, none⟩) l.length c) ∧ l.length + 1 ≤ c ∧ c ≤ maxLen ∧ IsB w' (.slice (some ⟨g, 0, none⟩) (l.length + 1) c) (l ++ [195]) ∧ Below w.heap.size w w' := by
  obtain ⟨x, c, rfl⟩ := hv.len
  obtain ⟨v1, w1, hr1, hO1, hB1, hs1⟩ := run_app_own (w.alloc (.cells #[] 5)) w.heap.size (.slice (some ⟨w.heap.size, 0, none⟩) 0 0) x c l 28 (ownB_empty w) ⟨_, rfl⟩ (hv.kept (below_alloc _ _)) (by omega) (by simp)
  have hsz1 : w.heap.size + 1 ≤ w1.heap.size := by simpa using hs1
  obtain ⟨v2, w2, hr2, hO2, hB2, hs2⟩ := run_app1 (w1.alloc (.cells #[Value.int .u8 195] 5)) w.heap.size w1.heap.size 1 v1 l 195 28 (hO1.keep (below_alloc _ _)) (by go_simp) hl (by simp; omega)
  obtain ⟨g, c2, rfl, hg, hle, hm⟩ := hO2.form (by simp)
  have hB : Below w.heap.size w w2 := (((Below.refl _ _).alloc (Nat.le_refl _) _).trans hB1).trans ((((Below.refl w.heap.size w1).alloc (by omega) _)).trans hB2)
  have hI := hO2.isB
  simp only [List.length_append, List.length_cons, List.length_nil, Nat.zero_add] at hle hr2 hI
  have HI : Hid (IsB w2 (.slice (some ⟨g, 0, none⟩) (l.length + 1) c2) (l ++ [195])) := hI
  have HB : Hid (Below w.heap.size w w2) := hB
  clear hO1 hO2 hB1 hB2 hs1 hs2 hv hI hB
  have hle' : (l.length : Int) ≤ (c2 : Int) := by omega
  unfold maxLen at hm
  have tok1 : True := trivial
  go_enter Try.func20, Try.ntmps20
  go_wp2_with (first | (at_builtin; have _t := tok1; refine wpL_app rfl _ _ rfl v1 w1 (by exact hr1) ?_; clear tok1 hr1) | (at_builtin; refine wpL_app rfl _ _ rfl _ w2 (by exact hr2) ?_))
  go_ret
  refine ⟨g, c2, rfl, by omega, by unfold maxLen; omega, HI.out, HB.out⟩
end Go.Proofs.Ytfihpfaljjljhaa
