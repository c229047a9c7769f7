import Derived.Test.YtgnjokbabecbdaaQMrk5
namespace Go.Proofs.Ytgnjokbabecbdaa
open Go.RowKit

/-! mark.Put -/
theorem geoF_0 {n : Int} (h0 : 64 ≤ n) (h1 : n ≤ 1024) : geoF n 0 = n := by unfold geoF; simp [h0, h1]
set_option linter.unusedSimpArgs false in
theorem put1_size (x : Option Addr) (L c ga gb gs : Nat) (n : Int) (W : World) (hn : ¬ (64 ≤ n ∧ n ≤ 1024)) (h0 : -9223372036854775808 ≤ n) (h1 : n ≤ 9223372036854775807)
    (ha : RowC W ga #[.slice x L c]) (hb : RowC W gb #[.int .i64 n]) :
    Calls Try.prog 16 #[.pointer (some ⟨ga, 0, none⟩), .pointer (some ⟨gb, 0, none⟩), .pointer (some ⟨gs, 0, none⟩)] W fun r w1 => r = .panicked (gup 22) ∧ Below W.heap.size W w1 := by
  go_enter Try.func16, Try.ntmps16
  go_upto_region 0 with fail
  refine wp_reliesP (fun ch w' => ch = gup 22 ∧ Below W.heap.size W w') [Fx (.slice x L c), Fx (.int .i64 n), (fun _ _ => False), (fun _ _ => False)] (by kernel_rfl) (by kernel_rfl) ?_ ?_ ?_ ?_
  · repeat' (first | exact all_nil | apply all_cons)
    all_goals intro v y y' hv hb
    all_goals first | exact Fx_mono _ _ _ _ hv hb | exact hv.elim
  · refine ⟨?_, ?_, ?_, ?_, trivial⟩
    all_goals
      intro ρ x9 hp ρc ρg ρf ho hd
      have o0 : ρ (.tmp 0) = .pointer (some ⟨ga, 0, none⟩) := ho 0 rfl
      have o1 : ρ (.tmp 1) = .pointer (some ⟨gb, 0, none⟩) := ho 1 rfl
      have o2 : ρ (.tmp 2) = .pointer (some ⟨gs, 0, none⟩) := ho 2 rfl
      clear ho
      have qa := (ha.kept hp).cell 0
      have qb := (hb.kept hp).cell 0
      simp at qa qb
      simp only [depsR, depR, slotR, Fx, List.getElem?_cons_succ, List.getElem?_cons_zero, Region.binds, forall_const] at hd
      simp only [guardR]
      go_split_ands
    · go_simp
    · go_simp
    · go_simp
      refine (disk_no n x9 hn h0 h1).mono ?_
      rintro e w' ⟨rfl, hw⟩
      first | exact .inr ⟨_, rfl, rfl, hp.trans (hw.mono hp.size)⟩ | exact ⟨_, rfl, rfl, hp.trans (hw.mono hp.size)⟩
    · exfalso; assumption
  · intro vs x2 hp hw
    simp only [owed, Fx] at hw
    exact (hw.2.2.1).elim
  · intro a9 ch w' hd hz
    exact ⟨hd, by rw [hz.1], hz.2⟩
set_option linter.unusedSimpArgs false in
theorem put1_bat (l : List Wr) (x : Option Addr) (L c ga gb gs : Nat) (n : Int) (W : World) (h0 : 64 ≤ n) (h1 : n ≤ 1024) (hL : l.length = L) (h63 : L ≤ 4611686018427387904) (hl : IsK wrE W (.slice x L c) l) (hlB : WrB l) (hbat : batB n l = false)
    (ha : RowC W ga #[.slice x L c]) (hb : RowC W gb #[.int .i64 n]) :
    Calls Try.prog 16 #[.pointer (some ⟨ga, 0, none⟩), .pointer (some ⟨gb, 0, none⟩), .pointer (some ⟨gs, 0, none⟩)] W fun r w1 => r = .panicked (gup 24) ∧ Below W.heap.size W w1 := by
  have hf := geoF_0 h0 h1
  go_enter Try.func16, Try.ntmps16
  go_upto_region 0 with fail
  refine wp_reliesP (fun ch w' => ch = gup 24 ∧ Below W.heap.size W w') [Fx (.slice x L c), Fx (.int .i64 n), Fx (.agg (gA (geoF n))), (fun _ _ => False)] (by kernel_rfl) (by kernel_rfl) ?_ ?_ ?_ ?_
  · repeat' (first | exact all_nil | apply all_cons)
    all_goals intro v y y' hv hb
    all_goals first | exact Fx_mono _ _ _ _ hv hb | exact hv.elim
  · refine ⟨?_, ?_, ?_, ?_, trivial⟩
    all_goals
      intro ρ x9 hp ρc ρg ρf ho hd
      have o0 : ρ (.tmp 0) = .pointer (some ⟨ga, 0, none⟩) := ho 0 rfl
      have o1 : ρ (.tmp 1) = .pointer (some ⟨gb, 0, none⟩) := ho 1 rfl
      have o2 : ρ (.tmp 2) = .pointer (some ⟨gs, 0, none⟩) := ho 2 rfl
      clear ho
      have qa := (ha.kept hp).cell 0
      have qb := (hb.kept hp).cell 0
      simp at qa qb
      simp only [depsR, depR, slotR, Fx, List.getElem?_cons_succ, List.getElem?_cons_zero, Region.binds, forall_const] at hd
      simp only [guardR]
      go_split_ands
    · go_simp
    · go_simp
    · go_simp
      refine (disk_yes n x9 h0 h1).mono ?_
      rintro e w' ⟨rfl, hw⟩
      first | exact .inl ⟨_, rfl, rfl, hw⟩ | exact ⟨_, rfl, rfl, hw⟩
    · go_simp
      refine (markOf_no l x L c (geoF n) x9 hL h63 (hl.kept hp) hlB (by rw [hf]; exact hbat)).mono ?_
      rintro e w' ⟨rfl, hw⟩
      first | exact .inr ⟨_, rfl, rfl, hp.trans (hw.mono hp.size)⟩ | exact ⟨_, rfl, rfl, hp.trans (hw.mono hp.size)⟩
  · intro vs x2 hp hw
    simp only [owed, Fx] at hw
    exact (hw.2.2.2.1).elim
  · intro a9 ch w' hd hz
    exact ⟨hd, by rw [hz.1], hz.2⟩
set_option linter.unusedSimpArgs false in
theorem put1_yes (l : List Wr) (x : Option Addr) (L c ga gb gs : Nat) (n : Int) (W : World) (h0 : 64 ≤ n) (h1 : n ≤ 1024) (hL : l.length = L) (hl : IsK wrE W (.slice x L c) l) (hlB : WrB l) (hbat : batB n l = true)
    (ha : RowC W ga #[.slice x L c]) (hb : RowC W gb #[.int .i64 n]) (hs : ScR W gs secZ) :
    Calls Try.prog 16 #[.pointer (some ⟨ga, 0, none⟩), .pointer (some ⟨gb, 0, none⟩), .pointer (some ⟨gs, 0, none⟩)] W fun r w1 => r = .returned (.tuple #[]) ∧ ∃ w0, Below W.heap.size W w0 ∧ w1 = w0.setRow gs (secA (marS l)) := by
  have hf := geoF_0 h0 h1
  go_enter Try.func16, Try.ntmps16
  go_upto_region 0 with fail
  refine wp_reliesP (fun _ _ => False) [Fx (.slice x L c), Fx (.int .i64 n), Fx (.agg (gA (geoF n))), Fx (.agg (secA (marS l)))] (by kernel_rfl) (by kernel_rfl) ?_ ?_ ?_ ?_
  · repeat' (first | exact all_nil | apply all_cons)
    all_goals intro v y y' hv hb
    all_goals first | exact Fx_mono _ _ _ _ hv hb | exact hv.elim
  · refine ⟨?_, ?_, ?_, ?_, trivial⟩
    all_goals
      intro ρ x9 hp ρc ρg ρf ho hd
      have o0 : ρ (.tmp 0) = .pointer (some ⟨ga, 0, none⟩) := ho 0 rfl
      have o1 : ρ (.tmp 1) = .pointer (some ⟨gb, 0, none⟩) := ho 1 rfl
      have o2 : ρ (.tmp 2) = .pointer (some ⟨gs, 0, none⟩) := ho 2 rfl
      clear ho
      have qa := (ha.kept hp).cell 0
      have qb := (hb.kept hp).cell 0
      simp at qa qb
      simp only [depsR, depR, slotR, Fx, List.getElem?_cons_succ, List.getElem?_cons_zero, Region.binds, forall_const] at hd
      simp only [guardR]
      go_split_ands
    · go_simp
    · go_simp
    · go_simp
      refine (disk_yes n x9 h0 h1).mono ?_
      rintro e w' ⟨rfl, hw⟩
      first | exact .inl ⟨_, rfl, rfl, hw⟩ | exact ⟨_, rfl, rfl, hw⟩
    · go_simp
      refine (markOf_yes l x L c (geoF n) x9 hL (hl.kept hp) hlB (by rw [hf]; exact hbat) (by rw [hf]; exact h1)).mono ?_
      rintro e w' ⟨rfl, hw⟩
      first | exact .inl ⟨_, rfl, rfl, hw⟩ | exact ⟨_, rfl, rfl, hw⟩
  · intro vs x2 hp hw
    simp only [owed, Fx] at hw
    obtain ⟨e0, e1, e2, e3, -⟩ := hw
    simp only [List.length_cons, List.length_nil, List.take_succ_cons, List.take_zero, List.drop_succ_cons, List.drop_zero, asg, List.cons_append, List.nil_append, e0, e1, e2, e3]
    clear e0 e1 e2 e3
    have h5 := hs.kept hp
    have HP : Hid _ := hp
    obtain ⟨r5, q5⟩ := h5
    clear hp ha hb hs hl hlB hbat h0 h1 hf
    go_wp2_with fail
    go_end0
    exact ⟨rfl, _, HP.out, rfl⟩
  · intro a9 ch w' hd hz
    exact hz.elim
theorem ScR.setc9 {w : World} {g k : Nat} {s : Sc} (h : ScR w k s) (v : Value) (hn : g ≠ k) : ScR (w.setCell ⟨g, 0, none⟩ v) k s := h.set_ne 0 v hn
/-- What trying answers of Put's own function. -/
theorem tput_any (l : List Wr) (x : Option Addr) (L c ga gb g4 g6 B : Nat) (n : Int) (w X : World) (hL : l.length = L) (h63 : L ≤ 4611686018427387904) (hl : IsK wrE w (.slice x L c) l) (hlB : WrB l) (h0 : -9223372036854775808 ≤ n) (h1 : n ≤ 9223372036854775807)
    (hBB : B = w.heap.size) (hB : Below B w X) (ha : RowC X ga #[.slice x L c]) (hb : RowC X gb #[.int .i64 n]) (h4 : ScR X g4 secZ) (h6 : ScR X g6 secZ) (hg6 : B ≤ g6) (hne : g4 ≠ g6) :
    Calls Try.prog 15 #[.func (.func 16) #[] #[.pointer (some ⟨ga, 0, none⟩), .pointer (some ⟨gb, 0, none⟩), .pointer (some ⟨g6, 0, none⟩)]] X fun r w' => r = .returned (.int .i64 (mPutE l n)) ∧ ScR w' g6 (mPutS l n) ∧ ScR w' g4 secZ ∧ Below B w w' := by
  subst hBB
  obtain ⟨X1, hX1⟩ : ∃ q, X.alloc (.cells #[.int .i64 0] 29) = q := ⟨_, rfl⟩
  have hA := below_alloc X (.cells #[.int .i64 0] 29)
  have hC := RowC.new X #[.int .i64 0] 29
  have hsz : X1.heap.size = X.heap.size + 1 := by rw [← hX1]; simp
  rw [hX1] at hA hC
  have h6X := h6.lt
  have h4X := h4.lt
  have hB1 : Below w.heap.size w X1 := hB.trans (hA.mono hB.size)
  have hX := hB.size
  by_cases h : 64 ≤ n ∧ n ≤ 1024
  · have hg : geoOk n = true := by unfold geoOk; simp [h]
    cases hbat : batB n l
    · have := trying_put_no ⟨ga, 0, none⟩ ⟨gb, 0, none⟩ ⟨g6, 0, none⟩ 24 X (fun w1 => Below X1.heap.size X1 w1) (by
        rw [hX1]
        refine (put1_bat l x L c ga gb g6 n X1 h.1 h.2 hL h63 (hl.kept hB1) hlB hbat (ha.kept hA) (hb.kept hA)).mono ?_
        rintro r w1 ⟨rfl, hw⟩
        exact ⟨rfl, hw, hC.kept hw⟩)
      refine this.mono ?_
      rintro r w' ⟨rfl, w1, hw, rfl⟩
      have e1 : mPutE l n = 24 := by unfold mPutE; rw [hg, hbat]; rfl
      have e2 : mPutS l n = secZ := by unfold mPutS; rw [hg, hbat]; rfl
      rw [e1, e2]
      exact ⟨rfl, ((h6.kept hA).kept hw).setc9 _ (by omega), ((h4.kept hA).kept hw).setc9 _ (by omega), (hB1.trans (hw.mono (by omega))).setCell (p := ⟨X.heap.size, 0, none⟩) hX _⟩
    · have := trying_put_yes ⟨ga, 0, none⟩ ⟨gb, 0, none⟩ ⟨g6, 0, none⟩ X (fun w1 => ∃ w0, Below X1.heap.size X1 w0 ∧ w1 = w0.setRow g6 (secA (marS l))) (by
        rw [hX1]
        refine (put1_yes l x L c ga gb g6 n X1 h.1 h.2 hL (hl.kept hB1) hlB hbat (ha.kept hA) (hb.kept hA) (h6.kept hA)).mono ?_
        rintro r w1 ⟨rfl, w0, hw, rfl⟩
        exact ⟨rfl, ⟨w0, hw, rfl⟩, (hC.kept hw).setRow_ne _ (by omega)⟩)
      refine this.mono ?_
      rintro r w' ⟨rfl, w1, ⟨w0, hw, rfl⟩, rfl⟩
      have e1 : mPutE l n = 0 := by unfold mPutE; rw [hg, hbat]; rfl
      have e2 : mPutS l n = marS l := by unfold mPutS; rw [hg, hbat]; rfl
      rw [e1, e2]
      exact ⟨rfl, (((h6.kept hA).kept hw).rowsame9 _).setc9 _ (by omega), (((h4.kept hA).kept hw).rowne9 _ hne).setc9 _ (by omega), (below_row (hB1.trans (hw.mono (by omega))) hg6 _).setCell (p := ⟨X.heap.size, 0, none⟩) hX _⟩
  · have hg : geoOk n = false := by
      unfold geoOk
      rw [Bool.and_eq_false_iff, decide_eq_false_iff_not, decide_eq_false_iff_not]
      omega
    have := trying_put_no ⟨ga, 0, none⟩ ⟨gb, 0, none⟩ ⟨g6, 0, none⟩ 22 X (fun w1 => Below X1.heap.size X1 w1) (by
      rw [hX1]
      refine (put1_size x L c ga gb g6 n X1 h h0 h1 (ha.kept hA) (hb.kept hA)).mono ?_
      rintro r w1 ⟨rfl, hw⟩
      exact ⟨rfl, hw, hC.kept hw⟩)
    refine this.mono ?_
    rintro r w' ⟨rfl, w1, hw, rfl⟩
    have e1 : mPutE l n = 22 := by unfold mPutE; rw [hg]; rfl
    have e2 : mPutS l n = secZ := by unfold mPutS; rw [hg]; rfl
    rw [e1, e2]
    exact ⟨rfl, ((h6.kept hA).kept hw).setc9 _ (by omega), ((h4.kept hA).kept hw).setc9 _ (by omega), (hB1.trans (hw.mono (by omega))).setCell (p := ⟨X.heap.size, 0, none⟩) hX _⟩
set_option linter.unusedSimpArgs false in
theorem mPutOk : MPutOk := by
  intro l x L c n w hL h40 hl hlB hn
  obtain ⟨S, hS⟩ : ∃ s, mPutS l n = s := ⟨_, rfl⟩
  obtain ⟨E, hE⟩ : ∃ s, mPutE l n = s := ⟨_, rfl⟩
  have hT := fun ga gb g4 g6 B X => tput_any l x L c ga gb g4 g6 B n w X hL (by omega) hl hlB hn.1 hn.2
  rw [hS, hE] at hT ⊢
  clear hS hE hl hlB hn
  have hmf : ∀ (fn : Fn) (first cap : Array Value) (w : World), (Instr.makeFunc fn first cap).run Try.prog w = .ok (.func fn first cap) w := fun _ _ _ _ => rfl
  go_enter Try.func7, Try.ntmps7
  go_upto_region 2 with fail
  obtain ⟨X, hX⟩ : ∃ q, (((w.alloc (.cells #[.slice x L c] 22)).alloc (.cells #[.int .i64 n] 3)).alloc (.cells (secA secZ) 28)).alloc (.cells (secA secZ) 28) = q := ⟨_, rfl⟩
  have hB : Below w.heap.size w X := by rw [← hX]; exact (((below_alloc w _).alloc (by simp) _).alloc (by simp; omega) _).alloc (by simp; omega) _
  have ha : RowC X w.heap.size #[.slice x L c] := by rw [← hX]; exact (((RowC.new w _ _).kept (below_alloc _ _)).kept (below_alloc _ _)).kept (below_alloc _ _)
  have hb : RowC X (w.heap.size + 1) #[.int .i64 n] := by
    have := ((RowC.new (w.alloc (.cells #[.slice x L c] 22)) #[.int .i64 n] 3).kept (below_alloc _ (.cells (secA secZ) 28))).kept (below_alloc _ (.cells (secA secZ) 28))
    rw [hX, World.size_alloc] at this; exact this
  have h4 : ScR X (w.heap.size + 1 + 1) secZ := by
    have := (ScR.new ((w.alloc (.cells #[.slice x L c] 22)).alloc (.cells #[.int .i64 n] 3)) secZ 28).kept (below_alloc _ (.cells (secA secZ) 28))
    rw [hX, World.size_alloc, World.size_alloc] at this; exact this
  have h6 : ScR X (w.heap.size + 1 + 1 + 1) secZ := by
    have := ScR.new (((w.alloc (.cells #[.slice x L c] 22)).alloc (.cells #[.int .i64 n] 3)).alloc (.cells (secA secZ) 28)) secZ 28
    rw [hX, World.size_alloc, World.size_alloc, World.size_alloc] at this; exact this
  have hC := hT w.heap.size (w.heap.size + 1) (w.heap.size + 1 + 1) (w.heap.size + 1 + 1 + 1) w.heap.size X rfl hB ha hb h4 h6 (by omega) (by omega)
  have HX : Hid _ := hX
  clear hT hB ha hb h4 h6 hX
  rw [HX.out]
  have hl4 : w.heap.size ≤ w.heap.size + 1 + 1 := by omega
  obtain ⟨g6, hg6⟩ : ∃ g, w.heap.size + 1 + 1 + 1 = g := ⟨_, rfl⟩
  obtain ⟨g4, hg4⟩ : ∃ g, w.heap.size + 1 + 1 = g := ⟨_, rfl⟩
  obtain ⟨gb, hgb⟩ : ∃ g, w.heap.size + 1 = g := ⟨_, rfl⟩
  obtain ⟨ga, hga⟩ : ∃ g, w.heap.size = g := ⟨_, rfl⟩
  rw [hg6, hg4, hgb] at hC
  rw [hg4] at hl4
  simp only [hg6]
  simp only [hg4]
  simp only [hgb]
  simp only [hga] at hC ⊢
  have hl4' : ga ≤ g4 := by omega
  have HG : Hid (w.heap.size = ga) := hga
  clear hg6 hg4 hgb hga HX hl4
  go_wp2_with fail
  go_at_call 15
  refine hC.mono ?_
  rintro e w1 ⟨rfl, h6, h4, hB⟩
  have HR9 : Hid (ScR (w1.setRow g4 (secA S)) g4 S) := h4.rowsame9 _
  have HB9 : Hid (Below ga w (w1.setRow g4 (secA S))) := below_row hB hl4' _
  obtain ⟨r6, q6⟩ := h6
  obtain ⟨r4, q4⟩ := h4
  clear hC hB
  go_wp2
  exact sec_bodyPost2 4 5 g4 S rfl rfl rfl HR9.out ⟨rfl, by rw [HG.out]; exact HB9.out⟩
end Go.Proofs.Ytgnjokbabecbdaa
