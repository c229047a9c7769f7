
import Derived.Test.YtejjjgheedngdaaGeo3
import Derived.Test.YtejjjgheedngdaaRely
import Derived.Deep.DeepCutAuto
namespace Go.Proofs.Ytejjjgheedngdaa
open Go.RowKit

set_option maxHeartbeats 400000 in
theorem geomOf_out (n a c : Int) (f : Nat → Int) (w : World) (_hn0 : -9223372036854775808 ≤ n) (_hn1 : n ≤ 9223372036854775807) (ha0 : -9223372036854775808 ≤ a) (ha1 : a ≤ 9223372036854775807)
    (hO : ∀ w, Calls Try.prog 6 #[.int .i64 n] w fun r w' => r = .returned (.tuple #[.agg (gA f), .int .i64 c]) ∧ Below w.heap.size w w')
    (hR : ∀ w, Calls Try.prog 8 #[.int .i64 n] w fun r w' => r = .returned (.tuple #[.agg (gA f), .int .i64 c]) ∧ Below w.heap.size w w')
    (hc : (c = 0 ∧ f 0 = n) ∨ (c = 22 ∧ f 0 = 0)) :
    Calls Try.prog 4 #[.int .i64 n, .int .i64 a] w fun r w' => r = .returned (.bool true) ∧ Below w.heap.size w w' := by
  go_enter Try.func4, Try.ntmps4
  go_wp2_with fail
  go_at_call 6
  refine (hO _).mono ?_
  rintro e w1 ⟨rfl, hb1⟩
  clear hO
  go_wp2_with fail
  go_at_call 8
  have h5 : RowC (w1.alloc (.cells (gA f) 24)) w1.heap.size (gA f) := RowC.new _ _ _
  have HB : Hid (Below w.heap.size w (w1.alloc (.cells (gA f) 24))) := hb1.alloc hb1.size _
  generalize w1.alloc (.cells (gA f) 24) = X1 at h5 HB ⊢
  generalize w1.heap.size = g5 at h5 ⊢
  clear hb1
  refine (hR _).mono ?_
  rintro e w2 ⟨rfl, hb2⟩
  clear hR
  replace h5 := h5.kept hb2
  have hB : Below w.heap.size w w2 := HB.out.trans (hb2.mono HB.out.size)
  clear HB hb2
  go_upto_region 3 with fail
  have h7 : RowC (w2.alloc (.cells (gA f) 30)) w2.heap.size (gA f) := RowC.new _ _ _
  replace h5 : RowC (w2.alloc (.cells (gA f) 30)) g5 (gA f) := h5.kept (below_alloc _ _)
  replace hB : Below w.heap.size w (w2.alloc (.cells (gA f) 30)) := hB.alloc hB.size _
  generalize w2.alloc (.cells (gA f) 30) = X at h5 h7 hB ⊢
  generalize w2.heap.size = g7 at h7 ⊢
  have c0 := h5.cell 0
  have d0 := h7.cell 0
  have c1 := h5.cell 1
  have d1 := h7.cell 1
  have c2 := h5.cell 2
  have d2 := h7.cell 2
  have c3 := h5.cell 3
  have d3 := h7.cell 3
  have c4 := h5.cell 4
  have d4 := h7.cell 4
  have c5 := h5.cell 5
  have d5 := h7.cell 5
  have c6 := h5.cell 6
  have d6 := h7.cell 6
  have HB : Hid _ := hB
  have H5 : Hid _ := h5
  have H7 : Hid _ := h7
  clear hB h5 h7
  go_upto_region 5 with fail
  have h5 : RowC X g5 (gA f) := H5.out
  have h7 : RowC X g7 (gA f) := H7.out
  clear H5 H7 c0 d0 c1 d1 c2 d2 c3 d3 c4 d4 c5 d5 c6 d6
  refine wp_relies [Fx (.pointer (some ⟨g5, 7, none⟩)), Fx (.int .i64 (f 7)), Fx (.pointer (some ⟨g7, 7, none⟩)), Fx (.int .i64 (f 7)), Fx (.bool false), Fx (.bool false), Fx (.pointer (some ⟨g5, 8, none⟩)), Fx (.int .i64 (f 8)), Fx (.pointer (some ⟨g7, 8, none⟩)), Fx (.int .i64 (f 8)), Fx (.bool false), Fx (.bool false), Fx (.bool false), Fx (.pointer (some ⟨g5, 9, none⟩)), Fx (.int .i64 (f 9)), Fx (.pointer (some ⟨g7, 9, none⟩)), Fx (.int .i64 (f 9)), Fx (.bool false), Fx (.bool false), Fx (.bool false), Fx (.pointer (some ⟨g5, 10, none⟩)), Fx (.int .i64 (f 10)), Fx (.pointer (some ⟨g7, 10, none⟩)), Fx (.int .i64 (f 10)), Fx (.bool false), Fx (.bool false), Fx (.bool false), Fx (.pointer (some ⟨g5, 11, none⟩)), Fx (.int .i64 (f 11)), Fx (.pointer (some ⟨g7, 11, none⟩)), Fx (.int .i64 (f 11)), Fx (.bool false), Fx (.bool false), Fx (.bool false), Fx (.pointer (some ⟨g5, 12, none⟩)), Fx (.int .i64 (f 12)), Fx (.pointer (some ⟨g7, 12, none⟩)), Fx (.int .i64 (f 12)), Fx (.bool false), Fx (.bool false), Fx (.bool false), Fx (.agg (gA f)), Fx (.int .i64 (f 11)), Fx (.pointer (some ⟨g7, 11, none⟩)), Fx (.int .i64 (f 11)), Fx (.bool false), Fx (.bool false)] (by kernel_rfl) (by kernel_rfl) ?_ ?_ ?_
  · repeat' (first | exact all_nil | apply all_cons)
    all_goals intro v y y' hv hb
    all_goals first | exact Fx_mono _ _ _ _ hv hb
  · refine ⟨?_, ?_, ?_, ?_, ?_, ?_, ?_, ?_, ?_, ?_, ?_, ?_, ?_, ?_, ?_, ?_, ?_, ?_, ?_, ?_, ?_, ?_, ?_, ?_, ?_, ?_, ?_, ?_, ?_, ?_, ?_, ?_, ?_, ?_, ?_, ?_, ?_, ?_, ?_, ?_, ?_, ?_, ?_, ?_, ?_, ?_, ?_, trivial⟩
    all_goals
      intro ρ x hp ρc ρg ρf ho hd
      have o5 : ρ (.tmp 5) = .pointer (some ⟨g5, 0, none⟩) := ho 5 rfl
      have o7 : ρ (.tmp 7) = .pointer (some ⟨g7, 0, none⟩) := ho 7 rfl
      clear ho
      obtain ⟨r1, q1⟩ := h5.kept hp
      obtain ⟨r2, q2⟩ := h7.kept hp
      have c7 := (h5.kept hp).cell 7
      have c8 := (h5.kept hp).cell 8
      have c9 := (h5.kept hp).cell 9
      have c10 := (h5.kept hp).cell 10
      have c11 := (h5.kept hp).cell 11
      have c12 := (h5.kept hp).cell 12
      have d7 := (h7.kept hp).cell 7
      have d8 := (h7.kept hp).cell 8
      have d9 := (h7.kept hp).cell 9
      have d10 := (h7.kept hp).cell 10
      have d11 := (h7.kept hp).cell 11
      have d12 := (h7.kept hp).cell 12
      simp only [depsR, depR, slotR, Fx, List.getElem?_cons_succ, List.getElem?_cons_zero, Region.binds, forall_const] at hd
      simp only [guardR]
      go_split_ands
    · go_simp
    · go_simp
    · go_simp
    · go_simp
    · go_simp
    · go_simp
    · refine ⟨fun _ => ?_, fun hy => absurd (by simp [yieldR, slotR, *]) hy⟩
      go_simp
    · refine ⟨fun _ => ?_, fun hy => absurd (by simp [yieldR, slotR, *]) hy⟩
      go_simp
    · refine ⟨fun _ => ?_, fun hy => absurd (by simp [yieldR, slotR, *]) hy⟩
      go_simp
    · refine ⟨fun _ => ?_, fun hy => absurd (by simp [yieldR, slotR, *]) hy⟩
      go_simp
    · refine ⟨fun _ => ?_, fun hy => absurd (by simp [yieldR, slotR, *]) hy⟩
      go_simp
    · go_simp
    · go_simp
    · refine ⟨fun _ => ?_, fun hy => absurd (by simp [yieldR, slotR, *]) hy⟩
      go_simp
    · refine ⟨fun _ => ?_, fun hy => absurd (by simp [yieldR, slotR, *]) hy⟩
      go_simp
    · refine ⟨fun _ => ?_, fun hy => absurd (by simp [yieldR, slotR, *]) hy⟩
      go_simp
    · refine ⟨fun _ => ?_, fun hy => absurd (by simp [yieldR, slotR, *]) hy⟩
      go_simp
    · refine ⟨fun _ => ?_, fun hy => absurd (by simp [yieldR, slotR, *]) hy⟩
      go_simp
    · go_simp
    · go_simp
    · refine ⟨fun _ => ?_, fun hy => absurd (by simp [yieldR, slotR, *]) hy⟩
      go_simp
    · refine ⟨fun _ => ?_, fun hy => absurd (by simp [yieldR, slotR, *]) hy⟩
      go_simp
    · refine ⟨fun _ => ?_, fun hy => absurd (by simp [yieldR, slotR, *]) hy⟩
      go_simp
    · refine ⟨fun _ => ?_, fun hy => absurd (by simp [yieldR, slotR, *]) hy⟩
      go_simp
    · refine ⟨fun _ => ?_, fun hy => absurd (by simp [yieldR, slotR, *]) hy⟩
      go_simp
    · go_simp
    · go_simp
    · refine ⟨fun _ => ?_, fun hy => absurd (by simp [yieldR, slotR, *]) hy⟩
      go_simp
    · refine ⟨fun _ => ?_, fun hy => absurd (by simp [yieldR, slotR, *]) hy⟩
      go_simp
    · refine ⟨fun _ => ?_, fun hy => absurd (by simp [yieldR, slotR, *]) hy⟩
      go_simp
    · refine ⟨fun _ => ?_, fun hy => absurd (by simp [yieldR, slotR, *]) hy⟩
      go_simp
    · refine ⟨fun _ => ?_, fun hy => absurd (by simp [yieldR, slotR, *]) hy⟩
      go_simp
    · go_simp
    · go_simp
    · refine ⟨fun _ => ?_, fun hy => absurd (by simp [yieldR, slotR, *]) hy⟩
      go_simp
    · refine ⟨fun _ => ?_, fun hy => absurd (by simp [yieldR, slotR, *]) hy⟩
      go_simp
    · refine ⟨fun _ => ?_, fun hy => absurd (by simp [yieldR, slotR, *]) hy⟩
      go_simp
    · refine ⟨fun _ => ?_, fun hy => absurd (by simp [yieldR, slotR, *]) hy⟩
      go_simp
    · refine ⟨fun _ => ?_, fun hy => absurd (by simp [yieldR, slotR, *]) hy⟩
      go_simp
    · go_simp
    · go_simp
    · refine ⟨fun _ => ?_, fun hy => absurd (by simp [yieldR, slotR, *]) hy⟩
      go_simp
    · refine ⟨fun _ => ?_, fun hy => absurd (by simp [yieldR, slotR, *]) hy⟩
      go_simp
      refine (ghead_any f x).mono ?_
      rintro e x' ⟨rfl, rfl⟩
      exact ⟨_, rfl, rfl, below_alloc _ _⟩
    · refine ⟨fun _ => ?_, fun hy => absurd (by simp [yieldR, slotR, *]) hy⟩
      go_simp
    · refine ⟨fun _ => ?_, fun hy => absurd (by simp [yieldR, slotR, *]) hy⟩
      go_simp
    · refine ⟨fun _ => ?_, fun hy => absurd (by simp [yieldR, slotR, *]) hy⟩
      go_simp
    · go_simp
  · intro vs x1 hp hw
    simp only [owed, Fx] at hw
    obtain ⟨e0, e1, e2, e3, e4, e5, e6, e7, e8, e9, e10, e11, e12, e13, e14, e15, e16, e17, e18, e19, e20, e21, e22, e23, e24, e25, e26, e27, e28, e29, e30, e31, e32, e33, e34, e35, e36, e37, e38, e39, e40, e41, e42, e43, e44, e45, e46, -⟩ := hw
    simp only [List.length_cons, List.length_nil, List.take_succ_cons, List.take_nil, List.drop_succ_cons, List.drop_nil, asg, List.cons_append, List.nil_append, e0, e1, e2, e3, e4, e5, e6, e7, e8, e9, e10, e11, e12, e13, e14, e15, e16, e17, e18, e19, e20, e21, e22, e23, e24, e25, e26, e27, e28, e29, e30, e31, e32, e33, e34, e35, e36, e37, e38, e39, e40, e41, e42, e43, e44, e45, e46]
    clear e0 e1 e2 e3 e4 e5 e6 e7 e8 e9 e10 e11 e12 e13 e14 e15 e16 e17 e18 e19 e20 e21 e22 e23 e24 e25 e26 e27 e28 e29 e30 e31 e32 e33 e34 e35 e36 e37 e38 e39 e40 e41 e42 e43 e44 e45 e46
    have hB1 := HB.out.trans (hp.mono HB.out.size)
    replace h5 := h5.kept hp
    clear HB hp h7
    have h5' := h5
    obtain ⟨r1, q1⟩ := h5'
    rcases hc with ⟨rfl, hf⟩ | ⟨rfl, hf⟩
    · have HT : Hid (tgtB (f 0) a = tgtB n a) := by show _ = _; rw [hf]
      clear hf
      go_wp2_with (first
        | (go_at_call 7; refine (gtarget_any _ _ _ (by omega) (by omega)).mono ?_; rintro e w3 ⟨rfl, rfl⟩; rw [HT.out])
        | (go_at_call 10; refine (rtarget_any _ _ _ (by omega) (by omega)).mono ?_; rintro e w3 ⟨rfl, rfl⟩)
        | (go_at_call 5; refine (gtaken_any _).mono ?_; rintro e w3 ⟨rfl, hb3⟩))
      go_ret
      exact ⟨rfl, (hB1.alloc hB1.size _).trans (hb3.mono (by have := hB1.size; simp; omega))⟩
    · have HT : Hid (tgtB (f 0) a = false) := by show _ = _; rw [hf]; unfold tgtB; simp; omega
      clear hf
      go_wp2_with (first
        | (go_at_call 7; refine (gtarget_any _ _ _ (by omega) (by omega)).mono ?_; rintro e w3 ⟨rfl, rfl⟩; rw [HT.out])
        | (go_at_call 10; refine (rtarget_any _ _ _ (by omega) (by omega)).mono ?_; rintro e w3 ⟨rfl, rfl⟩)
        | (go_at_call 5; refine (gtaken_any _).mono ?_; rintro e w3 ⟨rfl, hb3⟩))
      go_ret
      exact ⟨rfl, (hB1.alloc hB1.size _).trans (hb3.mono (by have := hB1.size; simp; omega))⟩
theorem geomOf_any (n a : Int) (w : World) (hn0 : -9223372036854775808 ≤ n) (hn1 : n ≤ 9223372036854775807) (ha0 : -9223372036854775808 ≤ a) (ha1 : a ≤ 9223372036854775807) :
    Calls Try.prog 4 #[.int .i64 n, .int .i64 a] w fun r w' => r = .returned (.bool true) ∧ Below w.heap.size w w' := by
  by_cases h : 64 ≤ n ∧ n ≤ 1024
  · refine geomOf_out n a 0 (geoF n) w hn0 hn1 ha0 ha1 (fun w => of_yes n w h.1 h.2) (fun w => rof_yes n w h.1 h.2) (.inl ⟨rfl, ?_⟩)
    unfold geoF; simp [h]
  · exact geomOf_out n a 22 (fun _ => 0) w hn0 hn1 ha0 ha1 (fun w => of_no n w h hn0 hn1) (fun w => rof_no n w h hn0 hn1) (.inr ⟨rfl, rfl⟩)
end Go.Proofs.Ytejjjgheedngdaa
