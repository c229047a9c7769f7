import Derived.Test.YtgnjokbabecbdaaQMrk1
import Derived.Test.YtgnjokbabecbdaaQMar2
namespace Go.Proofs.Ytgnjokbabecbdaa
open Go.RowKit

/-! mark.mustBeBatch -/
def mustR (n : Int) (l : List Wr) : Ending := bif batB n l then .returned (.tuple #[]) else .panicked (gup 24)
theorem wr_rg {w : World} {b o : Nat} {x : Wr} (h : w.rangeAt b o (wrE.enc x)) : rgOk w b o 65 = true ∧ rg w b o 65 = wrA x := by
  have h1 := rg_of (k := 65) h (by rw [wrE_ok.len]; rfl)
  refine ⟨h1.1, h1.2.trans ?_⟩
  rw [wrE_enc]
set_option linter.unusedSimpArgs false in
theorem must_len (x : Option Addr) (L c : Nat) (f : Nat → Int) (w : World) (hL : ¬ (1 ≤ L ∧ L ≤ 8)) (_h63 : L ≤ 4611686018427387904) :
    Calls Try.prog 29 #[.slice x L c, .agg (gA f)] w fun r w' => r = .panicked (gup 24) ∧ Below w.heap.size w w' := by
  go_enter Try.func29, Try.ntmps29
  by_cases hl0 : L < 1
  · have hl1 : (L : Int) < 1 := by omega
    obtain rfl : L = 0 := by omega
    go_wp2_with (go_at_call 35; refine (giveUp_any _ _).mono ?_; rintro e w2 ⟨rfl, rfl⟩)
    exact ⟨rfl, rfl, below_alloc _ _⟩
  · have hl1 : ¬ (L : Int) < 1 := by omega
    have hl2 : (8 : Int) < (L : Int) := by omega
    go_wp2_with (go_at_call 35; refine (giveUp_any _ _).mono ?_; rintro e w2 ⟨rfl, rfl⟩)
    exact ⟨rfl, rfl, below_alloc _ _⟩
set_option linter.unusedSimpArgs false in
set_option maxRecDepth 100000 in
set_option maxHeartbeats 4000000 in
theorem must_some (l : List Wr) (x : Option Addr) (L c : Nat) (f : Nat → Int) (w : World) (hL : l.length = L) (hL1 : 1 ≤ L) (hL8 : L ≤ 8) (hl : IsK wrE w (.slice x L c) l) (hlB : WrB l) :
    Calls Try.prog 29 #[.slice x L c, .agg (gA f)] w fun r w' => r = (bif allW (f 0) l L then .returned (.tuple #[]) else .panicked (gup 24)) ∧ Below w.heap.size w w' := by
  obtain ⟨bl, of, rfl⟩ : ∃ bl of, x = some ⟨bl, of, none⟩ := by
    obtain ⟨b, o, e, -⟩ := hl.at 0 _ (List.getElem?_eq_getElem (by omega))
    exact ⟨b, o, e⟩
  have hrng : ∀ i, i < L → ∀ W, Below w.heap.size w W → W.rangeAt bl (of + i * 65) (wrE.enc (l.getD i wrZ)) := fun i hi W hW => by
    have hg : l[i]? = some (l.getD i wrZ) := by rw [List.getD_eq_getElem?_getD, List.getElem?_eq_getElem (by omega)]; rfl
    obtain ⟨b, o, e, hb, hr⟩ := (hl.kept hW).at i _ hg
    simp only [Option.some.injEq, Addr.mk.injEq, and_true] at e
    obtain ⟨rfl, rfl⟩ := e
    exact hr
  have hl1 : ¬ (L : Int) < 1 := by omega
  have hl2 : ¬ (8 : Int) < (L : Int) := by omega
  obtain ⟨R, hR⟩ : ∃ s, (bif allW (f 0) l L then Ending.returned (.tuple #[]) else .panicked (gup 24)) = s := ⟨_, rfl⟩
  have HR : Hid _ := hR
  rw [hR]
  clear hR
  go_enter Try.func29, Try.ntmps29
  go_upto_region 1 with fail
  have hB0 : Below w.heap.size w (w.alloc (.cells (gA f) 50)) := below_alloc w _
  have hC0 : RowC (w.alloc (.cells (gA f) 50)) w.heap.size (gA f) := RowC.new w _ _
  obtain ⟨g3, hg3⟩ : ∃ g, w.heap.size = g := ⟨_, rfl⟩
  rw [hg3] at hC0
  simp only [hg3]
  generalize w.alloc (.cells (gA f) 50) = X at hB0 hC0 ⊢
  go_wp2_with fail
  go_loopw [17] (fun iv wr => ∃ i : Nat, i ≤ L ∧ iv = .int .i64 i ∧ allW (f 0) l i = true ∧ RowC wr g3 (gA f) ∧ Below w.heap.size w wr) (fun iv _ => L - (intOf iv).toNat)
  case atStart => exact ⟨0, by omega, rfl, rfl, hC0, hB0⟩
  case round =>
    clear hB0 hC0
    obtain ⟨i, hi, rfl, hal, hC, hBr⟩ := hrel
    by_cases hlt : i < L
    · obtain ⟨y, hy⟩ : ∃ y, l.getD i wrZ = y := ⟨_, rfl⟩
      have hya : y.1 = atW l i := by rw [← hy]; unfold atW; rfl
      have hr9 := hrng i hlt _ hBr
      rw [hy] at hr9
      obtain ⟨rk, rv⟩ := wr_rg hr9
      clear hy hr9
      obtain ⟨W1, hW1⟩ : ∃ q, wr.alloc (.cells (wrA y) 34) = q := ⟨_, rfl⟩
      have q3 : RowC W1 g3 (gA f) := by rw [← hW1]; exact hC.kept (below_alloc _ _)
      have hB1 : Below w.heap.size w W1 := by rw [← hW1]; exact hBr.alloc hBr.size _
      have c5 : W1.cell? ⟨wr.heap.size, 0, none⟩ = some (.int .i64 (atW l i)) := by
        rw [← hW1, (RowC.new wr (wrA y) 34).cell 0, wrA_at, hya]
      clear hya
      have Ha : Hid (-9223372036854775808 ≤ atW l i ∧ atW l i ≤ 9223372036854775807) := hlB i (by omega)
      have hk9 : (i : Int) < (L : Int) := by omega
      have FK : Hid ((i : Int) < (L : Int)) := hk9
      obtain ⟨bt, hbt⟩ : ∃ b, tgtB (f 0) (atW l i) = b := ⟨_, rfl⟩
      have HT : Hid (tgtB (f 0) (atW l i) = bt) := hbt
      clear hbt
      have HW1 : Hid _ := hW1
      clear hW1
      go_upto_region 6 with fail
      rw [HW1.out]
      clear rk rv hC hBr hk9 HW1
      obtain ⟨g5, hg5⟩ : ∃ g, wr.heap.size = g := ⟨_, rfl⟩
      rw [hg5] at c5
      simp only [hg5]
      clear hg5
      have hbt := HT.out
      cases bt
      · have hok : okW (f 0) l i = false := by unfold okW; rw [hbt]; rfl
        clear hbt
        refine wp_reliesT [Fx (.agg (gA f)), Fx (.pointer (some ⟨g5, 0, none⟩)), Fx (.int .i64 (atW l i)), Fx (.bool false), Fx (.bool true), Fx (.bool true), Fx (undef), Fx (undef), Fx (undef), Fx (undef), Fx (undef), Fx (undef), Fx (undef), Fx (undef), Fx (undef), Fx (undef), Fx (undef), Fx (undef), Fx (undef)] (by kernel_rfl) (by kernel_rfl) ?_ ?_ ?_
        · repeat' (first | exact all_nil | apply all_cons)
          all_goals intro v y y' hv hb
          all_goals first | exact Fx_mono _ _ _ _ hv hb
        · refine ⟨?_, ?_, ?_, ?_, ?_, ?_, ?_, ?_, ?_, ?_, ?_, ?_, ?_, ?_, ?_, ?_, ?_, ?_, ?_, trivial⟩
          all_goals
            intro ρ x hp ρc ρg ρf ho hd
            have o0 : ρ (.tmp 0) = .slice (some ⟨bl, of, none⟩) L c := ho 0 rfl
            have o3 : ρ (.tmp 3) = .pointer (some ⟨g3, 0, none⟩) := ho 3 rfl
            have o4 : ρ (.tmp 4) = .int .i64 ((i : Int)) := ho 4 rfl
            have o5 : ρ (.tmp 5) = .pointer (some ⟨g5, 0, none⟩) := ho 5 rfl
            clear ho
            have kc := cell_later hp c5
            have kq := q3.kept hp
            obtain ⟨k1, k2⟩ := kq
            simp only [depsR, depR, slotR, Fx, List.getElem?_cons_succ, List.getElem?_cons_zero, Region.binds, forall_const] at hd
            simp only [guardR]
            go_split_ands
          · go_simp
          · go_simp
          · go_simp
          · go_simp
            refine (gtarget_any f (atW l i) x Ha.out.1 Ha.out.2).mono ?_
            rintro e w' ⟨rfl, rfl⟩
            exact ⟨_, rfl, by show Value.bool _ = _; rw [HT.out], below_alloc _ _⟩
          · go_simp
          · go_simp
          · refine ⟨fun hy => ?_, fun _ => rfl⟩
            exfalso; simp [yieldR, slotR, undef, *] at hy
          · refine ⟨fun hy => ?_, fun _ => rfl⟩
            exfalso; simp [yieldR, slotR, undef, *] at hy
          · refine ⟨fun hy => ?_, fun _ => rfl⟩
            exfalso; simp [yieldR, slotR, undef, *] at hy
          · refine ⟨fun hy => ?_, fun _ => rfl⟩
            exfalso; simp [yieldR, slotR, undef, *] at hy
          · refine ⟨fun hy => ?_, fun _ => rfl⟩
            exfalso; simp [yieldR, slotR, undef, *] at hy
          · refine ⟨fun hy => ?_, fun _ => rfl⟩
            exfalso; simp [yieldR, slotR, undef, *] at hy
          · refine ⟨fun hy => ?_, fun _ => rfl⟩
            exfalso; simp [yieldR, slotR, undef, *] at hy
          · refine ⟨fun hy => ?_, fun _ => rfl⟩
            exfalso; simp [yieldR, slotR, undef, *] at hy
          · refine ⟨fun hy => ?_, fun _ => rfl⟩
            exfalso; simp [yieldR, slotR, undef, *] at hy
          · refine ⟨fun hy => ?_, fun _ => rfl⟩
            exfalso; simp [yieldR, slotR, undef, *] at hy
          · refine ⟨fun hy => ?_, fun _ => rfl⟩
            exfalso; simp [yieldR, slotR, undef, *] at hy
          · refine ⟨fun hy => ?_, fun _ => rfl⟩
            exfalso; simp [yieldR, slotR, undef, *] at hy
          · refine ⟨fun hy => ?_, fun _ => rfl⟩
            exfalso; simp [yieldR, slotR, undef, *] at hy
        · intro vs x2 hp hw
          simp only [owed, Fx] at hw
          obtain ⟨e0, e1, e2, e3, e4, e5, e6, e7, e8, e9, e10, e11, e12, e13, e14, e15, e16, e17, e18, -⟩ := hw
          simp only [List.length_cons, List.length_nil, List.take_succ_cons, List.take_zero, List.drop_succ_cons, List.drop_zero, asg, List.cons_append, List.nil_append, e0, e1, e2, e3, e4, e5, e6, e7, e8, e9, e10, e11, e12, e13, e14, e15, e16, e17, e18]
          clear e0 e1 e2 e3 e4 e5 e6 e7 e8 e9 e10 e11 e12 e13 e14 e15 e16 e17 e18
          have hB2 := hB1.trans (hp.mono hB1.size)
          have hfl : allW (f 0) l L = false := allW_false hok hlt
          obtain rfl : Ending.panicked (gup 24) = R := by rw [← HR.out, hfl]; rfl
          have HB2 : Hid _ := hB2
          clear hp hB1 hB2 q3 c5
          go_wp2_with (go_at_call 35; refine (giveUp_any _ _).mono ?_; rintro e w2 ⟨rfl, rfl⟩)
          exact ⟨rfl, rfl, HB2.out⟩
      · by_cases hz : i = 0
        · have hok : okW (f 0) l i = true := by unfold okW; rw [hbt, decide_eq_true hz]; rfl
          have HAL : Hid (allW (f 0) l (i + 1) = true) := by show _ = _; rw [allW, hal, hok]; rfl
          have HZ : Hid (i = 0) := hz
          clear hbt hok hal hz
          refine wp_reliesT [Fx (.agg (gA f)), Fx (.pointer (some ⟨g5, 0, none⟩)), Fx (.int .i64 (atW l i)), Fx (.bool true), Fx (.bool false), Fx (.bool false), Fx (.int .i64 ((i : Int))), Fx (.bool false), Fx (.bool false), Fx (undef), Fx (undef), Fx (undef), Fx (undef), Fx (undef), Fx (undef), Fx (undef), Fx (undef), Fx (undef), Fx (.bool false)] (by kernel_rfl) (by kernel_rfl) ?_ ?_ ?_
          · repeat' (first | exact all_nil | apply all_cons)
            all_goals intro v y y' hv hb
            all_goals first | exact Fx_mono _ _ _ _ hv hb
          · refine ⟨?_, ?_, ?_, ?_, ?_, ?_, ?_, ?_, ?_, ?_, ?_, ?_, ?_, ?_, ?_, ?_, ?_, ?_, ?_, trivial⟩
            all_goals
              intro ρ x hp ρc ρg ρf ho hd
              have o0 : ρ (.tmp 0) = .slice (some ⟨bl, of, none⟩) L c := ho 0 rfl
              have o3 : ρ (.tmp 3) = .pointer (some ⟨g3, 0, none⟩) := ho 3 rfl
              have o4 : ρ (.tmp 4) = .int .i64 ((i : Int)) := ho 4 rfl
              have o5 : ρ (.tmp 5) = .pointer (some ⟨g5, 0, none⟩) := ho 5 rfl
              clear ho
              have kc := cell_later hp c5
              have kq := q3.kept hp
              obtain ⟨k1, k2⟩ := kq
              simp only [depsR, depR, slotR, Fx, List.getElem?_cons_succ, List.getElem?_cons_zero, Region.binds, forall_const] at hd
              simp only [guardR]
              go_split_ands
            · go_simp
            · go_simp
            · go_simp
            · go_simp
              refine (gtarget_any f (atW l i) x Ha.out.1 Ha.out.2).mono ?_
              rintro e w' ⟨rfl, rfl⟩
              exact ⟨_, rfl, by show Value.bool _ = _; rw [HT.out], below_alloc _ _⟩
            · go_simp
            · go_simp
            · refine ⟨fun _ => ?_, fun hy => absurd (by simp [yieldR, slotR, *]) hy⟩
              go_simp
            · refine ⟨fun _ => ?_, fun hy => absurd (by simp [yieldR, slotR, *]) hy⟩
              have hz := HZ.out
              go_simp
            · refine ⟨fun _ => ?_, fun hy => absurd (by simp [yieldR, slotR, *]) hy⟩
              go_simp
            · refine ⟨fun hy => ?_, fun _ => rfl⟩
              exfalso; simp [yieldR, slotR, undef, *] at hy
            · refine ⟨fun hy => ?_, fun _ => rfl⟩
              exfalso; simp [yieldR, slotR, undef, *] at hy
            · refine ⟨fun hy => ?_, fun _ => rfl⟩
              exfalso; simp [yieldR, slotR, undef, *] at hy
            · refine ⟨fun hy => ?_, fun _ => rfl⟩
              exfalso; simp [yieldR, slotR, undef, *] at hy
            · refine ⟨fun hy => ?_, fun _ => rfl⟩
              exfalso; simp [yieldR, slotR, undef, *] at hy
            · refine ⟨fun hy => ?_, fun _ => rfl⟩
              exfalso; simp [yieldR, slotR, undef, *] at hy
            · refine ⟨fun hy => ?_, fun _ => rfl⟩
              exfalso; simp [yieldR, slotR, undef, *] at hy
            · refine ⟨fun hy => ?_, fun _ => rfl⟩
              exfalso; simp [yieldR, slotR, undef, *] at hy
            · refine ⟨fun hy => ?_, fun _ => rfl⟩
              exfalso; simp [yieldR, slotR, undef, *] at hy
            · refine ⟨fun _ => ?_, fun hy => absurd (by simp [yieldR, slotR, *]) hy⟩
              go_simp
          · intro vs x2 hp hw
            simp only [owed, Fx] at hw
            obtain ⟨e0, e1, e2, e3, e4, e5, e6, e7, e8, e9, e10, e11, e12, e13, e14, e15, e16, e17, e18, -⟩ := hw
            simp only [List.length_cons, List.length_nil, List.take_succ_cons, List.take_zero, List.drop_succ_cons, List.drop_zero, asg, List.cons_append, List.nil_append, e0, e1, e2, e3, e4, e5, e6, e7, e8, e9, e10, e11, e12, e13, e14, e15, e16, e17, e18]
            clear e0 e1 e2 e3 e4 e5 e6 e7 e8 e9 e10 e11 e12 e13 e14 e15 e16 e17 e18
            have HB2 : Hid _ := hB1.trans (hp.mono hB1.size)
            have HC2 : Hid _ := q3.kept hp
            clear hp hB1 q3 c5
            go_wp2_with fail
            go_roundw
            case rel => exact ⟨i + 1, by omega, by go_num, HAL.out, HC2.out, HB2.out⟩
            case measure => simp [intOf]; omega
        · have HZ : Hid (0 < i) := Nat.pos_of_ne_zero hz
          have hz0 : 0 < i := Nat.pos_of_ne_zero hz
          obtain ⟨bl9, hbl9⟩ : ∃ b, decide (atW l i ≤ atW l (i - 1)) = b := ⟨_, rfl⟩
          have HB9 : Hid (decide (atW l i ≤ atW l (i - 1)) = bl9) := hbl9
          have HW : Hid (IntKind.i64.wrap ((i : Int) - 1) = ((i - 1 : Nat) : Int)) := by show _ = _; rw [IntKind.wrap_i64]; omega
          have FJ : Hid (((i - 1 : Nat) : Int) < (L : Int)) := by show _ < _; omega
          have cJ : Hid (W1.cell? ⟨bl, of + (i - 1) * 65, none⟩ = some (.int .i64 (atW l (i - 1)))) := (wr_at (hrng (i - 1) (by omega) _ hB1)).1
          clear hz hz0
          refine wp_reliesT [Fx (.agg (gA f)), Fx (.pointer (some ⟨g5, 0, none⟩)), Fx (.int .i64 (atW l i)), Fx (.bool true), Fx (.bool false), Fx (.bool false), Fx (.int .i64 ((i : Int))), Fx (.bool true), Fx (.bool true), Fx (.pointer (some ⟨g5, 0, none⟩)), Fx (.int .i64 (atW l i)), Fx (.slice (some ⟨bl, of, none⟩) L c), Fx (.int .i64 ((i : Int))), Fx (.int .i64 (((i - 1 : Nat) : Int))), Fx (.pointer (some ⟨bl, of + (i - 1) * 65, none⟩)), Fx (.pointer (some ⟨bl, of + (i - 1) * 65, none⟩)), Fx (.int .i64 (atW l (i - 1))), Fx (.bool bl9), Fx (.bool bl9)] (by kernel_rfl) (by kernel_rfl) ?_ ?_ ?_
          · repeat' (first | exact all_nil | apply all_cons)
            all_goals intro v y y' hv hb
            all_goals first | exact Fx_mono _ _ _ _ hv hb
          · refine ⟨?_, ?_, ?_, ?_, ?_, ?_, ?_, ?_, ?_, ?_, ?_, ?_, ?_, ?_, ?_, ?_, ?_, ?_, ?_, trivial⟩
            all_goals
              intro ρ x hp ρc ρg ρf ho hd
              have o0 : ρ (.tmp 0) = .slice (some ⟨bl, of, none⟩) L c := ho 0 rfl
              have o3 : ρ (.tmp 3) = .pointer (some ⟨g3, 0, none⟩) := ho 3 rfl
              have o4 : ρ (.tmp 4) = .int .i64 ((i : Int)) := ho 4 rfl
              have o5 : ρ (.tmp 5) = .pointer (some ⟨g5, 0, none⟩) := ho 5 rfl
              clear ho
              have kc := cell_later hp c5
              have kq := q3.kept hp
              obtain ⟨k1, k2⟩ := kq
              simp only [depsR, depR, slotR, Fx, List.getElem?_cons_succ, List.getElem?_cons_zero, Region.binds, forall_const] at hd
              simp only [guardR]
              go_split_ands
            · go_simp
            · go_simp
            · go_simp
            · go_simp
              refine (gtarget_any f (atW l i) x Ha.out.1 Ha.out.2).mono ?_
              rintro e w' ⟨rfl, rfl⟩
              exact ⟨_, rfl, by show Value.bool _ = _; rw [HT.out], below_alloc _ _⟩
            · go_simp
            · go_simp
            · refine ⟨fun _ => ?_, fun hy => absurd (by simp [yieldR, slotR, *]) hy⟩
              go_simp
            · refine ⟨fun _ => ?_, fun hy => absurd (by simp [yieldR, slotR, *]) hy⟩
              have hz := HZ.out
              go_simp
            · refine ⟨fun _ => ?_, fun hy => absurd (by simp [yieldR, slotR, *]) hy⟩
              go_simp
            · refine ⟨fun _ => ?_, fun hy => absurd (by simp [yieldR, slotR, *]) hy⟩
              go_simp
            · refine ⟨fun _ => ?_, fun hy => absurd (by simp [yieldR, slotR, *]) hy⟩
              go_simp
            · refine ⟨fun _ => ?_, fun hy => absurd (by simp [yieldR, slotR, *]) hy⟩
              go_simp
            · refine ⟨fun _ => ?_, fun hy => absurd (by simp [yieldR, slotR, *]) hy⟩
              go_simp
            · refine ⟨fun _ => ?_, fun hy => absurd (by simp [yieldR, slotR, *]) hy⟩
              have hw := HW.out
              go_simp
            · refine ⟨fun _ => ?_, fun hy => absurd (by simp [yieldR, slotR, *]) hy⟩
              have hq := FJ.out
              go_simp
            · refine ⟨fun _ => ?_, fun hy => absurd (by simp [yieldR, slotR, *]) hy⟩
              go_simp
            · refine ⟨fun _ => ?_, fun hy => absurd (by simp [yieldR, slotR, *]) hy⟩
              have kd := cell_later hp cJ.out
              go_simp
            · refine ⟨fun _ => ?_, fun hy => absurd (by simp [yieldR, slotR, *]) hy⟩
              have hb := HB9.out
              go_simp
            · refine ⟨fun _ => ?_, fun hy => absurd (by simp [yieldR, slotR, *]) hy⟩
              go_simp
          · intro vs x2 hp hw
            simp only [owed, Fx] at hw
            obtain ⟨e0, e1, e2, e3, e4, e5, e6, e7, e8, e9, e10, e11, e12, e13, e14, e15, e16, e17, e18, -⟩ := hw
            simp only [List.length_cons, List.length_nil, List.take_succ_cons, List.take_zero, List.drop_succ_cons, List.drop_zero, asg, List.cons_append, List.nil_append, e0, e1, e2, e3, e4, e5, e6, e7, e8, e9, e10, e11, e12, e13, e14, e15, e16, e17, e18]
            clear e0 e1 e2 e3 e4 e5 e6 e7 e8 e9 e10 e11 e12 e13 e14 e15 e16 e17 e18
            have HB2 : Hid _ := hB1.trans (hp.mono hB1.size)
            have HC2 : Hid _ := q3.kept hp
            clear hp hB1 q3 c5
            cases bl9
            · have hok : okW (f 0) l i = true := by
                unfold okW
                rw [hbt, decide_eq_false (show ¬ i = 0 from by have := HZ.out; omega)]
                rw [decide_eq_false_iff_not] at hbl9
                rw [decide_eq_true (by omega)]; rfl
              have HAL : Hid (allW (f 0) l (i + 1) = true) := by show _ = _; rw [allW, hal, hok]; rfl
              clear hbt hbl9 hok hal
              go_wp2_with fail
              go_roundw
              case rel => exact ⟨i + 1, by omega, by go_num, HAL.out, HC2.out, HB2.out⟩
              case measure => simp [intOf]; omega
            · have hok : okW (f 0) l i = false := by
                unfold okW
                rw [hbt, decide_eq_false (show ¬ i = 0 from by have := HZ.out; omega)]
                rw [decide_eq_true_eq] at hbl9
                rw [decide_eq_false (by omega)]; rfl
              clear hbt hbl9
              have hfl : allW (f 0) l L = false := allW_false hok hlt
              obtain rfl : Ending.panicked (gup 24) = R := by rw [← HR.out, hfl]; rfl
              go_wp2_with (go_at_call 35; refine (giveUp_any _ _).mono ?_; rintro e w2 ⟨rfl, rfl⟩)
              exact ⟨rfl, rfl, HB2.out⟩
    · obtain rfl : L = i := by omega
      obtain rfl : Ending.returned (.tuple #[]) = R := by rw [← HR.out, hal]; rfl
      have HB : Hid _ := hBr
      clear hal hC hBr
      go_wp2_with fail
      go_end0
      exact ⟨rfl, HB.out⟩
theorem must_any (l : List Wr) (x : Option Addr) (L c : Nat) (f : Nat → Int) (w : World) (hL : l.length = L) (h63 : L ≤ 4611686018427387904) (hl : IsK wrE w (.slice x L c) l) (hlB : WrB l) :
    Calls Try.prog 29 #[.slice x L c, .agg (gA f)] w fun r w' => r = mustR (f 0) l ∧ Below w.heap.size w w' := by
  by_cases hl8 : 1 ≤ L ∧ L ≤ 8
  · have := must_some l x L c f w hL hl8.1 hl8.2 hl hlB
    have hb : batB (f 0) l = allW (f 0) l L := by unfold batB lenB; rw [hL, decide_eq_true hl8, Bool.true_and]
    unfold mustR
    rw [hb]
    exact this
  · have := must_len x L c f w hl8 h63
    have hb : batB (f 0) l = false := by unfold batB lenB; rw [hL, decide_eq_false hl8, Bool.false_and]
    unfold mustR
    rw [hb]
    exact this
end Go.Proofs.Ytgnjokbabecbdaa
