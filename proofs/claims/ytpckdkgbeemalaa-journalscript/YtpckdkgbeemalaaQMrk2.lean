import Derived.Test.YtpckdkgbeemalaaQMrk1
import Derived.Test.YtpckdkgbeemalaaQMar1
import Derived.Test.YtpckdkgbeemalaaQCrcR2
namespace Go.Proofs.Ytpckdkgbeemalaa
open Go.RowKit

/-! mark.mustBeBatch -/
def mustR (n : Int) (l : List Wr) : Ending := bif batB n l then .returned (.tuple #[]) else .panicked (gup 24)
theorem wr_rg {w : World} {b o : Nat} {x : Wr} (h : w.rangeAt b o (wrE.enc x)) : rgOk w b o 65 = true ∧ rg w b o 65 = wrA x := by
  have h1 := rg_of (k := 65) h (by rw [wrE_ok.len]; rfl)
  refine ⟨h1.1, h1.2.trans ?_⟩
  rw [wrE_enc]
set_option linter.unusedSimpArgs false in
theorem must_len (x : Option Addr) (L c : Nat) (f : Nat → Int) (w : World) (hL : ¬ (1 ≤ L ∧ L ≤ 8)) (_h63 : L ≤ 4611686018427387904) :
    Calls Try.prog 76 #[.slice x L c, .agg (gA f)] w fun r w' => r = .panicked (gup 24) ∧ Below w.heap.size w w' := by
  go_enter Try.func76, Try.ntmps76
  by_cases hl0 : L < 1
  · have hl1 : (L : Int) < 1 := by omega
    obtain rfl : L = 0 := by omega
    go_wp2_with (go_at_call 73; refine (giveUp_any _ _).mono ?_; rintro e w2 ⟨rfl, rfl⟩)
    exact ⟨rfl, rfl, below_alloc _ _⟩
  · have hl1 : ¬ (L : Int) < 1 := by omega
    have hl2 : (8 : Int) < (L : Int) := by omega
    go_wp2_with (go_at_call 73; refine (giveUp_any _ _).mono ?_; rintro e w2 ⟨rfl, rfl⟩)
    exact ⟨rfl, rfl, below_alloc _ _⟩
set_option linter.unusedSimpArgs false in
set_option maxRecDepth 100000 in
set_option maxHeartbeats 4000000 in
theorem must_some (l : List Wr) (x : Option Addr) (L c : Nat) (f : Nat → Int) (w : World) (hL : l.length = L) (hL1 : 1 ≤ L) (hL8 : L ≤ 8) (hl : IsK wrE w (.slice x L c) l) (hlB : WrB l) :
    Calls Try.prog 76 #[.slice x L c, .agg (gA f)] w fun r w' => r = (bif allW (f 0) l L then .returned (.tuple #[]) else .panicked (gup 24)) ∧ Below w.heap.size w w' := by
  obtain ⟨bl, of, rfl⟩ : ∃ bl of, x = some ⟨bl, of, none⟩ := by
    obtain ⟨b, o, e, -⟩ := hl.at 0 _ (List.getElem?_eq_getElem (by omega))
    exact ⟨b, o, e⟩
  have hrng : ∀ i, i < L → ∀ W, Below w.heap.size w W → W.rangeAt bl (of + i * 65) (wrE.enc (l.getD i wrZ)) := fun i hi W hW => by
    have hg : l[i]? = some (l.getD i wrZ) := by rw [List.getD_eq_getElem?_getD, List.getElem?_eq_getElem (by omega)]; rfl
    obtain ⟨b, o, e, hb, hr⟩ := (hl.kept hW).at i _ hg
    simp only [Option.some.injEq, Addr.mk.injEq, and_true] at e
    obtain ⟨rfl, rfl⟩ := e
    exact hr
  have hl1 : ¬ (L : Int) < 1 := by omega
  have hl2 : ¬ (8 : Int) < (L : Int) := by omega
  obtain ⟨R, hR⟩ : ∃ s, (bif allW (f 0) l L then Ending.returned (.tuple #[]) else .panicked (gup 24)) = s := ⟨_, rfl⟩
  have HR : Hid _ := hR
  rw [hR]
  clear hR
  go_enter Try.func76, Try.ntmps76
  go_upto_region 1 with fail
  have hB0 : Below w.heap.size w (w.alloc (.cells (gA f) 106)) := below_alloc w _
  have hC0 : RowC (w.alloc (.cells (gA f) 106)) w.heap.size (gA f) := RowC.new w _ _
  obtain ⟨g3, hg3⟩ : ∃ g, w.heap.size = g := ⟨_, rfl⟩
  rw [hg3] at hC0
  simp only [hg3]
  generalize w.alloc (.cells (gA f) 106) = X at hB0 hC0 ⊢
  go_wp2_with fail
  go_loopw [17] (fun iv wr => ∃ i : Nat, i ≤ L ∧ iv = .int .i64 i ∧ allW (f 0) l i = true ∧ RowC wr g3 (gA f) ∧ Below w.heap.size w wr) (fun iv _ => L - (intOf iv).toNat)
  case atStart => exact ⟨0, by omega, rfl, rfl, hC0, hB0⟩
  case round =>
    clear hB0 hC0
    obtain ⟨i, hi, rfl, hal, hC, hBr⟩ := hrel
    by_cases hlt : i < L
    · obtain ⟨y, hy⟩ : ∃ y, l.getD i wrZ = y := ⟨_, rfl⟩
      have hya : y.1 = atW l i := by rw [← hy]; unfold atW; rfl
      have hr9 := hrng i hlt _ hBr
      rw [hy] at hr9
      obtain ⟨rk, rv⟩ := wr_rg hr9
      clear hy hr9
      obtain ⟨W1, hW1⟩ : ∃ q, wr.alloc (.cells (wrA y) 54) = q := ⟨_, rfl⟩
      have q3 : RowC W1 g3 (gA f) := by rw [← hW1]; exact hC.kept (below_alloc _ _)
      have hB1 : Below w.heap.size w W1 := by rw [← hW1]; exact hBr.alloc hBr.size _
      have c5 : W1.cell? ⟨wr.heap.size, 0, none⟩ = some (.int .i64 (atW l i)) := by
        rw [← hW1, (RowC.new wr (wrA y) 54).cell 0, wrA_at, hya]
      clear hya
      have Ha : Hid (-9223372036854775808 ≤ atW l i ∧ atW l i ≤ 9223372036854775807) := hlB i (by omega)
      have hk9 : (i : Int) < (L : Int) := by omega
      have FK : Hid ((i : Int) < (L : Int)) := hk9
      obtain ⟨bt, hbt⟩ : ∃ b, tgtB (f 0) (atW l i) = b := ⟨_, rfl⟩
      have HT : Hid (tgtB (f 0) (atW l i) = bt) := hbt
      clear hbt
      have HW1 : Hid _ := hW1
      clear hW1
      go_upto_region 6 with fail
      rw [HW1.out]
      clear rk rv hC hBr hk9 HW1
      obtain ⟨g5, hg5⟩ : ∃ g, wr.heap.size = g := ⟨_, rfl⟩
      rw [hg5] at c5
      simp only [hg5]
      clear hg5
      have hbt := HT.out
      cases bt
      · have hok : okW (f 0) l i = false := by unfold okW; rw [hbt]; rfl
        clear hbt
        refine wp_reliesT [Fx (.agg (gA f)), Fx (.pointer (some ⟨g5, 0, none⟩)), Fx (.int .i64 (atW l i)), Fx (.bool false), Fx (.bool true), Fx (.bool true), Fx (undef), Fx (undef), Fx (undef), Fx (undef), Fx (undef), Fx (undef), Fx (undef), Fx (undef), Fx (undef), Fx (undef), Fx (undef), Fx (undef), Fx (undef)] (by kernel_rfl) (by kernel_rfl) ?_ ?_ ?_
        · repeat' (first | exact all_nil | apply all_cons)
          all_goals intro v y y' hv hb
          all_goals first | exact Fx_mono _ _ _ _ hv hb
        · refine ⟨?_, ?_, ?_, ?_, ?_, ?_, ?_, ?_, ?_, ?_, ?_, ?_, ?_, ?_, ?_, ?_, ?_, ?_, ?_, trivial⟩
          all_goals
            intro ρ x hp ρc ρg ρf ho hd
            have o0 : ρ (.tmp 0) = .slice (some ⟨bl, of, none⟩) L c := ho 0 rfl
            have o3 : ρ (.tmp 3) = .pointer (some ⟨g3, 0, none⟩) := ho 3 rfl
            have o4 : ρ (.tmp 4) = .int .i64 ((i : Int)) := ho 4 rfl
            have o5 : ρ (.tmp 5) = .pointer (some ⟨g5, 0, none⟩) := ho 5 rfl
            clear ho
            have kc := cell_later hp c5
            have kq := q3.kept hp
            obtain ⟨k1, k2⟩ := kq
            simp only [depsR, depR, slotR, Fx, List.getElem?_cons_succ, List.getElem?_cons_zero, Region.binds, forall_const] at hd
            simp only [guardR]
            go_split_ands
          · go_simp
          · go_simp
          · go_simp
          · go_simp
            refine (gtarget_any f (atW l i) x Ha.out.1 Ha.out.2).mono ?_
            rintro e w' ⟨rfl, rfl⟩
            exact ⟨_, rfl, by show Value.bool _ = _; rw [HT.out], below_alloc _ _⟩
          · go_simp
          · go_simp
          · refine ⟨fun hy => ?_, fun _ => rfl⟩
            exfalso; simp [yieldR, slotR, undef, *] at hy
          · refine ⟨fun hy => ?_, fun _ => rfl⟩
            exfalso; simp [yieldR, slotR, undef, *] at hy
          · refine ⟨fun hy => ?_, fun _ => rfl⟩
            exfalso; simp [yieldR, slotR, undef, *] at hy
          · refine ⟨fun hy => ?_, fun _ => rfl⟩
            exfalso; simp [yieldR, slotR, undef, *] at hy
          · refine ⟨fun hy => ?_, fun _ => rfl⟩
            exfalso; simp [yieldR, slotR, undef, *] at hy
          · refine ⟨fun hy => ?_, fun _ => rfl⟩
            exfalso; simp [yieldR, slotR, undef, *] at hy
          · refine ⟨fun hy => ?_, fun _ => rfl⟩
            exfalso; simp [yieldR, slotR, undef, *] at hy
          · refine ⟨fun hy => ?_, fun _ => rfl⟩
            exfalso; simp [yieldR, slotR, undef, *] at hy
          · refine ⟨fun hy => ?_, fun _ => rfl⟩
            exfalso; simp [yieldR, slotR, undef, *] at hy
          · refine ⟨fun hy => ?_, fun _ => rfl⟩
            exfalso; simp [yieldR, slotR, undef, *] at hy
          · refine ⟨fun hy => ?_, fun _ => rfl⟩
            exfalso; simp [yieldR, slotR, undef, *] at hy
          · refine ⟨fun hy => ?_, fun _ => rfl⟩
            exfalso; simp [yieldR, slotR, undef, *] at hy
          · refine ⟨fun hy => ?_, fun _ => rfl⟩
            exfalso; simp [yieldR, slotR, undef, *] at hy
        · intro vs x2 hp hw
          simp only [owed, Fx] at hw
          obtain ⟨e0, e1, e2, e3, e4, e5, e6, e7, e8, e9, e10, e11, e12, e13, e14, e15, e16, e17, e18, -⟩ := hw
          simp only [List.length_cons, List.length_nil, List.take_succ_cons, List.take_zero, List.drop_succ_cons, List.drop_zero, asg, List.cons_append, List.nil_append, e0, e1, e2, e3, e4, e5, e6, e7, e8, e9, e10, e11, e12, e13, e14, e15, e16, e17, e18]
          clear e0 e1 e2 e3 e4 e5 e6 e7 e8 e9 e10 e11 e12 e13 e14 e15 e16 e17 e18
          have hB2 := hB1.trans (hp.mono hB1.size)
          have hfl : allW (f 0) l L = false := allW_false hok hlt
          obtain rfl : Ending.panicked (gup 24) = R := by rw [← HR.out, hfl]; rfl
          have HB2 : Hid _ := hB2
          clear hp hB1 hB2 q3 c5
          go_wp2_with (go_at_call 73; refine (giveUp_any _ _).mono ?_; rintro e w2 ⟨rfl, rfl⟩)
          exact ⟨rfl, rfl, HB2.out⟩
      · by_cases hz : i = 0
        · have hok : okW (f 0) l i = true := by unfold okW; rw [hbt, decide_eq_true hz]; rfl
          have HAL : Hid (allW (f 0) l (i + 1) = true) := by show _ = _; rw [allW, hal, hok]; rfl
          have HZ : Hid (i = 0) := hz
          clear hbt hok hal hz
          refine wp_reliesT [Fx (.agg (gA f)), Fx (.pointer (some ⟨g5, 0, none⟩)), Fx (.int .i64 (atW l i)), Fx (.bool true), Fx (.bool false), Fx (.bool false), Fx (.int .i64 ((i : Int))), Fx (.bool false), Fx (.bool false), Fx (undef), Fx (undef), Fx (undef), Fx (undef), Fx (undef), Fx (undef), Fx (undef), Fx (undef), Fx (undef), Fx (.bool false)] (by kernel_rfl) (by kernel_rfl) ?_ ?_ ?_
          · repeat' (first | exact all_nil | apply all_cons)
            all_goals intro v y y' hv hb
            all_goals first | exact Fx_mono _ _ _ _ hv hb
          · refine ⟨?_, ?_, ?_, ?_, ?_, ?_, ?_, ?_, ?_, ?_, ?_, ?_, ?_, ?_, ?_, ?_, ?_, ?_, ?_, trivial⟩
            all_goals
              intro ρ x hp ρc ρg ρf ho hd
              have o0 : ρ (.tmp 0) = .slice (some ⟨bl, of, none⟩) L c := ho 0 rfl
              have o3 : ρ (.tmp 3) = .pointer (some ⟨g3, 0, none⟩) := ho 3 rfl
              have o4 : ρ (.tmp 4) = .int .i64 ((i : Int)) := ho 4 rfl
              have o5 : ρ (.tmp 5) = .pointer (some ⟨g5, 0, none⟩) := ho 5 rfl
              clear ho
              have kc := cell_later hp c5
              have kq := q3.kept hp
              obtain ⟨k1, k2⟩ := kq
              simp only [depsR, depR, slotR, Fx, List.getElem?_cons_succ, List.getElem?_cons_zero, Region.binds, forall_const] at hd
              simp only [guardR]
              go_split_ands
            · go_simp
            · go_simp
            · go_simp
            · go_simp
              refine (gtarget_any f (atW l i) x Ha.out.1 Ha.out.2).mono ?_
              rintro e w' ⟨rfl, rfl⟩
              exact ⟨_, rfl, by show Value.bool _ = _; rw [HT.out], below_alloc _ _⟩
            · go_simp
            · go_simp
            · refine ⟨fun _ => ?_, fun hy => absurd (by simp [yieldR, slotR, *]) hy⟩
              go_simp
            · refine ⟨fun _ => ?_, fun hy => absurd (by simp [yieldR, slotR, *]) hy⟩
              have hz := HZ.out
              go_simp
            · refine ⟨fun _ => ?_, fun hy => absurd (by simp [yieldR, slotR, *]) hy⟩
              go_simp
            · refine ⟨fun hy => ?_, fun _ => rfl⟩
              exfalso; simp [yieldR, slotR, undef, *] at hy
            · refine ⟨fun hy => ?_, fun _ => rfl⟩
              exfalso; simp [yieldR, slotR, undef, *] at hy
            · refine ⟨fun hy => ?_, fun _ => rfl⟩
              exfalso; simp [yieldR, slotR, undef, *] at hy
            · refine ⟨fun hy => ?_, fun _ => rfl⟩
              exfalso; simp [yieldR, slotR, undef, *] at hy
            · refine ⟨fun hy => ?_, fun _ => rfl⟩
              exfalso; simp [yieldR, slotR, undef, *] at hy
            · refine ⟨fun hy => ?_, fun _ => rfl⟩
              exfalso; simp [yieldR, slotR, undef, *] at hy
            · refine ⟨fun hy => ?_, fun _ => rfl⟩
              exfalso; simp [yieldR, slotR, undef, *] at hy
            · refine ⟨fun hy => ?_, fun _ => rfl⟩
              exfalso; simp [yieldR, slotR, undef, *] at hy
            · refine ⟨fun hy => ?_, fun _ => rfl⟩
              exfalso; simp [yieldR, slotR, undef, *] at hy
            · refine ⟨fun _ => ?_, fun hy => absurd (by simp [yieldR, slotR, *]) hy⟩
              go_simp
          · intro vs x2 hp hw
            simp only [owed, Fx] at hw
            obtain ⟨e0, e1, e2, e3, e4, e5, e6, e7, e8, e9, e10, e11, e12, e13, e14, e15, e16, e17, e18, -⟩ := hw
            simp only [List.length_cons, List.length_nil, List.take_succ_cons, List.take_zero, List.drop_succ_cons, List.drop_zero, asg, List.cons_append, List.nil_append, e0, e1, e2, e3, e4, e5, e6, e7, e8, e9, e10, e11, e12, e13, e14, e15, e16, e17, e18]
            clear e0 e1 e2 e3 e4 e5 e6 e7 e8 e9 e10 e11 e12 e13 e14 e15 e16 e17 e18
            have HB2 : Hid _ := hB1.trans (hp.mono hB1.size)
            have HC2 : Hid _ := q3.kept hp
            clear hp hB1 q3 c5
            go_wp2_with fail
            go_roundw
            case rel => exact ⟨i + 1, by omega, by go_num, HAL.out, HC2.out, HB2.out⟩
            case measure => simp [intOf]; omega
        · have HZ : Hid (0 < i) := Nat.pos_of_ne_zero hz
          have hz0 : 0 < i := Nat.pos_of_ne_zero hz
          obtain ⟨bl9, hbl9⟩ : ∃ b, decide (atW l i ≤ atW l (i - 1)) = b := ⟨_, rfl⟩
          have HB9 : Hid (decide (atW l i ≤ atW l (i - 1)) = bl9) := hbl9
          have HW : Hid (IntKind.i64.wrap ((i : Int) - 1) = ((i - 1 : Nat) : Int)) := by show _ = _; rw [IntKind.wrap_i64]; omega
          have FJ : Hid (((i - 1 : Nat) : Int) < (L : Int)) := by show _ < _; omega
          have cJ : Hid (W1.cell? ⟨bl, of + (i - 1) * 65, none⟩ = some (.int .i64 (atW l (i - 1)))) := (wr_at (hrng (i - 1) (by omega) _ hB1)).1
          clear hz hz0
          refine wp_reliesT [Fx (.agg (gA f)), Fx (.pointer (some ⟨g5, 0, none⟩)), Fx (.int .i64 (atW l i)), Fx (.bool true), Fx (.bool false), Fx (.bool false), Fx (.int .i64 ((i : Int))), Fx (.bool true), Fx (.bool true), Fx (.pointer (some ⟨g5, 0, none⟩)), Fx (.int .i64 (atW l i)), Fx (.slice (some ⟨bl, of, none⟩) L c), Fx (.int .i64 ((i : Int))), Fx (.int .i64 (((i - 1 : Nat) : Int))), Fx (.pointer (some ⟨bl, of + (i - 1) * 65, none⟩)), Fx (.pointer (some ⟨bl, of + (i - 1) * 65, none⟩)), Fx (.int .i64 (atW l (i - 1))), Fx (.bool bl9), Fx (.bool bl9)] (by kernel_rfl) (by kernel_rfl) ?_ ?_ ?_
          · repeat' (first | exact all_nil | apply all_cons)
            all_goals intro v y y' hv hb
            all_goals first | exact Fx_mono _ _ _ _ hv hb
          · refine ⟨?_, ?_, ?_, ?_, ?_, ?_, ?_, ?_, ?_, ?_, ?_, ?_, ?_, ?_, ?_, ?_, ?_, ?_, ?_, trivial⟩
            all_goals
              intro ρ x hp ρc ρg ρf ho hd
              have o0 : ρ (.tmp 0) = .slice (some ⟨bl, of, none⟩) L c := ho 0 rfl
              have o3 : ρ (.tmp 3) = .pointer (some ⟨g3, 0, none⟩) := ho 3 rfl
              have o4 : ρ (.tmp 4) = .int .i64 ((i : Int)) := ho 4 rfl
              have o5 : ρ (.tmp 5) = .pointer (some ⟨g5, 0, none⟩) := ho 5 rfl
              clear ho
              have kc := cell_later hp c5
              have kq := q3.kept hp
              obtain ⟨k1, k2⟩ := kq
              simp only [depsR, depR, slotR, Fx, List.getElem?_cons_succ, List.getElem?_cons_zero, Region.binds, forall_const] at hd
              simp only [guardR]
              go_split_ands
            · go_simp
            · go_simp
            · go_simp
            · go_simp
              refine (gtarget_any f (atW l i) x Ha.out.1 Ha.out.2).mono ?_
              rintro e w' ⟨rfl, rfl⟩
              exact ⟨_, rfl, by show Value.bool _ = _; rw [HT.out], below_alloc _ _⟩
            · go_simp
            · go_simp
            · refine ⟨fun _ => ?_, fun hy => absurd (by simp [yieldR, slotR, *]) hy⟩
              go_simp
            · refine ⟨fun _ => ?_, fun hy => absurd (by simp [yieldR, slotR, *]) hy⟩
              have hz := HZ.out
              go_simp
            · refine ⟨fun _ => ?_, fun hy => absurd (by simp [yieldR, slotR, *]) hy⟩
              go_simp
            · refine ⟨fun _ => ?_, fun hy => absurd (by simp [yieldR, slotR, *]) hy⟩
              go_simp
            · refine ⟨fun _ => ?_, fun hy => absurd (by simp [yieldR, slotR, *]) hy⟩
              go_simp
            · refine ⟨fun _ => ?_, fun hy => absurd (by simp [yieldR, slotR, *]) hy⟩
              go_simp
            · refine ⟨fun _ => ?_, fun hy => absurd (by simp [yieldR, slotR, *]) hy⟩
              go_simp
            · refine ⟨fun _ => ?_, fun hy => absurd (by simp [yieldR, slotR, *]) hy⟩
              have hw := HW.out
              go_simp
            · refine ⟨fun _ => ?_, fun hy => absurd (by simp [yieldR, slotR, *]) hy⟩
              have hq := FJ.out
              go_simp
            · refine ⟨fun _ => ?_, fun hy => absurd (by simp [yieldR, slotR, *]) hy⟩
              go_simp
            · refine ⟨fun _ => ?_, fun hy => absurd (by simp [yieldR, slotR, *]) hy⟩
              have kd := cell_later hp cJ.out
              go_simp
            · refine ⟨fun _ => ?_, fun hy => absurd (by simp [yieldR, slotR, *]) hy⟩
              have hb := HB9.out
              go_simp
            · refine ⟨fun _ => ?_, fun hy => absurd (by simp [yieldR, slotR, *]) hy⟩
              go_simp
          · intro vs x2 hp hw
            simp only [owed, Fx] at hw
            obtain ⟨e0, e1, e2, e3, e4, e5, e6, e7, e8, e9, e10, e11, e12, e13, e14, e15, e16, e17, e18, -⟩ := hw
            simp only [List.length_cons, List.length_nil, List.take_succ_cons, List.take_zero, List.drop_succ_cons, List.drop_zero, asg, List.cons_append, List.nil_append, e0, e1, e2, e3, e4, e5, e6, e7, e8, e9, e10, e11, e12, e13, e14, e15, e16, e17, e18]
            clear e0 e1 e2 e3 e4 e5 e6 e7 e8 e9 e10 e11 e12 e13 e14 e15 e16 e17 e18
            have HB2 : Hid _ := hB1.trans (hp.mono hB1.size)
            have HC2 : Hid _ := q3.kept hp
            clear hp hB1 q3 c5
            cases bl9
            · have hok : okW (f 0) l i = true := by
                unfold okW
                rw [hbt, decide_eq_false (show ¬ i = 0 from by have := HZ.out; omega)]
                rw [decide_eq_false_iff_not] at hbl9
                rw [decide_eq_true (by omega)]; rfl
              have HAL : Hid (allW (f 0) l (i + 1) = true) := by show _ = _; rw [allW, hal, hok]; rfl
              clear hbt hbl9 hok hal
              go_wp2_with fail
              go_roundw
              case rel => exact ⟨i + 1, by omega, by go_num, HAL.out, HC2.out, HB2.out⟩
              case measure => simp [intOf]; omega
            · have hok : okW (f 0) l i = false := by
                unfold okW
                rw [hbt, decide_eq_false (show ¬ i = 0 from by have := HZ.out; omega)]
                rw [decide_eq_true_eq] at hbl9
                rw [decide_eq_false (by omega)]; rfl
              clear hbt hbl9
              have hfl : allW (f 0) l L = false := allW_false hok hlt
              obtain rfl : Ending.panicked (gup 24) = R := by rw [← HR.out, hfl]; rfl
              go_wp2_with (go_at_call 73; refine (giveUp_any _ _).mono ?_; rintro e w2 ⟨rfl, rfl⟩)
              exact ⟨rfl, rfl, HB2.out⟩
    · obtain rfl : L = i := by omega
      obtain rfl : Ending.returned (.tuple #[]) = R := by rw [← HR.out, hal]; rfl
      have HB : Hid _ := hBr
      clear hal hC hBr
      go_wp2_with fail
      go_end0
      exact ⟨rfl, HB.out⟩
theorem must_any (l : List Wr) (x : Option Addr) (L c : Nat) (f : Nat → Int) (w : World) (hL : l.length = L) (h63 : L ≤ 4611686018427387904) (hl : IsK wrE w (.slice x L c) l) (hlB : WrB l) :
    Calls Try.prog 76 #[.slice x L c, .agg (gA f)] w fun r w' => r = mustR (f 0) l ∧ Below w.heap.size w w' := by
  by_cases hl8 : 1 ≤ L ∧ L ≤ 8
  · have := must_some l x L c f w hL hl8.1 hl8.2 hl hlB
    have hb : batB (f 0) l = allW (f 0) l L := by unfold batB lenB; rw [hL, decide_eq_true hl8, Bool.true_and]
    unfold mustR
    rw [hb]
    exact this
  · have := must_len x L c f w hl8 h63
    have hb : batB (f 0) l = false := by unfold batB lenB; rw [hL, decide_eq_false hl8, Bool.false_and]
    unfold mustR
    rw [hb]
    exact this
end Go.Proofs.Ytpckdkgbeemalaa
namespace Go.Proofs.Ytpckdkgbeemalaa
open Go.RowKit

/-! mark.sumOf -/
def mkV9 (x y : Value) : Sem Next := do pure (.value (← Instr.makeSlice 128 x y))
@[go_sem ↓] theorem execOp_mkV9 (ρ : Operand → Value) (dst : Option Tmp) (ty : TypeId) (pos : String) (after : Array Edge) (guard : Option (Nat × Bool)) (x y : Operand) : execOp ρ { dst, op := .makeSlice 128 x y, type := ty, pos, after, guard } = mkV9 (ρ x) (ρ y) := rfl
/-- The parts when the first i are laid. -/
def ptA (bl of L i : Nat) : Array Value := ((List.range L).map fun k => if k < i then Value.slice (some ⟨bl, of + k * 65 + 1, none⟩) 64 64 else .slice none 0 0).toArray
@[go_sem] theorem ptA_size (bl of L i : Nat) : (ptA bl of L i).size = L := by simp [ptA]
theorem ptA_get (bl of L i k : Nat) (h : k < L) : (ptA bl of L i)[k]? = some (if k < i then Value.slice (some ⟨bl, of + k * 65 + 1, none⟩) 64 64 else .slice none 0 0) := by simp [ptA, h]
theorem ptA_set (bl of L i : Nat) (_h : i < L) : (ptA bl of L i).setIfInBounds i (.slice (some ⟨bl, of + i * 65 + 1, none⟩) 64 64) = ptA bl of L (i + 1) := by
  apply Array.ext_getElem?
  intro k
  by_cases hk : k < L
  · rw [Array.getElem?_setIfInBounds, ptA_size, ptA_get _ _ _ _ _ hk, ptA_get _ _ _ _ _ hk]
    by_cases hik : i = k
    · subst hik; simp [hk]
    · rw [if_neg hik]
      by_cases h3 : k < i
      · rw [if_pos h3, if_pos (by omega)]
      · rw [if_neg h3, if_neg (by omega)]
  · rw [Array.getElem?_eq_none (by simp [ptA_size]; omega), Array.getElem?_eq_none (by simp [ptA_size]; omega)]
theorem info_vs9 : (Try.prog.info? 22).map (fun i => (i.zero, i.size, i.bytes)) = some (some (.slice none 0 0), 1, 24) := by kernel_rfl
theorem run_mkV9 (w : World) (bl of n : Nat) (h : n ≤ 1000000) : (mkV9 (.int .i64 (n : Int)) (.int .i64 (n : Int))).run Try.prog w =
    .ok (.value (.slice (some ⟨w.heap.size, 0, none⟩) n n)) (w.alloc (.cells (ptA bl of n 0) 22)) := by
  obtain ⟨i, hi, hzz⟩ := Option.map_eq_some_iff.1 info_vs9
  simp only [Prod.mk.injEq] at hzz
  simp only [mkV9, Sem.run_bind]
  rw [run_make (P := Try.prog) w 128 22 i _ Try.underlying128 hi hzz.1 .i64 .i64 n n (by omega) (Int.le_refl _) (by rw [hzz.2.2]; omega) (by omega)]
  have e : madeCells #[Value.slice none 0 0] n = ptA bl of n 0 := by
    apply Array.ext_getElem?
    intro k
    by_cases hk : k < n
    · rw [ptA_get _ _ _ _ _ hk]; simp [madeCells, hk, Nat.mod_one]
    · rw [Array.getElem?_eq_none (by rw [size_madeCells]; omega), Array.getElem?_eq_none (by rw [ptA_size]; omega)]
  rw [hzz.2.1, Int.toNat_natCast, Nat.mul_one, show (Value.slice none 0 0).cells = #[Value.slice none 0 0] from rfl, e]
  rfl
def sumP (l : List Wr) (L : Nat) : List (List UInt8) := (List.range L).map fun k => kS (dtW l k)
theorem sumP_flat (l : List Wr) : ∀ L, (sumP l L).flatten = allU8 l L
  | 0 => rfl
  | L + 1 => by
    have ih := sumP_flat l L
    unfold sumP at ih ⊢
    rw [List.range_succ, List.map_append, List.flatten_append, ih, allU8]; simp
set_option linter.unusedSimpArgs false in
set_option maxHeartbeats 1000000 in
theorem sumOf_any (l : List Wr) (x : Option Addr) (L c : Nat) (w : World) (hL : l.length = L) (hL1 : 1 ≤ L) (hL8 : L ≤ 8) (hl : IsK wrE w (.slice x L c) l) :
    Calls Try.prog 79 #[.slice x L c] w fun r w' => r = .returned (.int .u32 (((mSum l).toNat : Nat) : Int)) ∧ Below w.heap.size w w' := by
  obtain ⟨bl, of, rfl⟩ : ∃ bl of, x = some ⟨bl, of, none⟩ := by
    obtain ⟨b, o, e, -⟩ := hl.at 0 _ (List.getElem?_eq_getElem (by omega))
    exact ⟨b, o, e⟩
  have hcell : ∀ i, i < L → ∀ W, Below w.heap.size w W → ∀ j, j < 64 → W.cell? ⟨bl, of + i * 65 + 1 + j, none⟩ = some (.int .u8 ((dtW l i j).toNat : Int)) := fun i hi W hW => by
    have hg : l[i]? = some (l.getD i wrZ) := by rw [List.getD_eq_getElem?_getD, List.getElem?_eq_getElem (by omega)]; rfl
    obtain ⟨b, o, e, hb, hr⟩ := (hl.kept hW).at i _ hg
    simp only [Option.some.injEq, Addr.mk.injEq, and_true] at e
    obtain ⟨rfl, rfl⟩ := e
    exact (wr_at hr).2
  have hmk := run_mkV9 w bl of L (by omega)
  have HS : Hid (Calls Try.prog 87 #[.slice (some ⟨w.heap.size, 0, none⟩) L L] (w.alloc (.cells (ptA bl of L L) 22)) fun e w' => e = .returned (.int .u32 (((mSum l).toNat : Nat) : Int)) ∧ Below (w.alloc (.cells (ptA bl of L L) 22)).heap.size (w.alloc (.cells (ptA bl of L L) 22)) w') := by
    show Calls _ _ _ _ _
    have hlen : (sumP l L).length = L := by simp [sumP]
    have h1 := sum_any (.slice (some ⟨w.heap.size, 0, none⟩) (sumP l L).length L) (sumP l L) (w.alloc (.cells (ptA bl of L L) 22)) (by rw [hlen]; unfold maxLen; omega) (fun q hq => by
      obtain ⟨k, -, rfl⟩ := List.mem_map.1 hq
      simp [kS, maxLen]) (.inr ⟨_, L, rfl, fun i hi => by
        rw [hlen] at hi
        refine ⟨.slice (some ⟨bl, of + i * 65 + 1, none⟩) 64 64, ?_, ?_⟩
        · have hadd : (⟨w.heap.size, 0, none⟩ : Addr).add i = ⟨w.heap.size, i, none⟩ := by unfold Addr.add; split <;> simp_all
          rw [hadd, (RowC.new w (ptA bl of L L) 22).cell i, ptA_get _ _ _ _ _ hi, if_pos hi]
        · have hget : (sumP l L)[i]'(by rw [hlen]; exact hi) = kS (dtW l i) := by simp [sumP]
          rw [hget]
          have hk64 : (kS (dtW l i)).length = 64 := by simp [kS]
          refine .inr ⟨⟨bl, of + i * 65 + 1, none⟩, 64, by rw [hk64], fun j hj => ?_⟩
          have hadd : (⟨bl, of + i * 65 + 1, none⟩ : Addr).add j = ⟨bl, of + i * 65 + 1 + j, none⟩ := by unfold Addr.add; split <;> simp_all
          rw [hk64] at hj
          rw [hadd, hcell i hi _ (below_alloc w _) j hj]
          have := kS_get (dtW l i) j hj
          simp only [List.getElem?_eq_some_iff] at this
          obtain ⟨_, h⟩ := this
          rw [h]⟩)
    rw [hlen, sumP_flat] at h1
    have e2 : mSum l = sumL (allU8 l L) := by unfold mSum; rw [hL]
    rw [e2]; exact h1
  clear hl hcell
  go_enter Try.func79, Try.ntmps79
  go_wp2_with fail
  go_loopw [10] (fun iv wr => ∃ i : Nat, i ≤ L ∧ iv = .int .i64 i ∧ wr = w.alloc (.cells (ptA bl of L i) 22)) (fun iv _ => L - (intOf iv).toNat)
  case atStart => exact ⟨0, by omega, rfl, rfl⟩
  case round =>
    clear hmk
    obtain ⟨i, hi, rfl, rfl⟩ := hrel
    by_cases hlt : i < L
    · have hk9 : (i : Int) < (L : Int) := by omega
      have hc := ptA_get bl of L i i hlt
      rw [if_neg (by omega)] at hc
      have HPS : Hid _ := ptA_set bl of L i hlt
      go_wp2_with fail
      go_roundw
      case rel => exact ⟨i + 1, by omega, by go_num, by rw [HPS.out]⟩
      case measure => simp [intOf]; omega
    · obtain rfl : L = i := by omega
      go_wp2_with (go_at_call 87; refine HS.out.mono ?_; rintro e w2 ⟨rfl, hB⟩)
      go_ret
      exact ⟨rfl, (below_alloc w _).trans (hB.mono (by simp))⟩
end Go.Proofs.Ytpckdkgbeemalaa
namespace Go.Proofs.Ytpckdkgbeemalaa
open Go.RowKit

/-! mark.markOf -/
theorem mTg_put (l : List Wr) (i : Nat) (hi : i < 8) : putI (mTg l i) ((4 + 2 * i : Nat) : Int) (atW l i).toNat 2 = mTg l (i + 1) := by
  unfold putI
  rw [if_pos (by rw [inB_iff]; omega), Int.toNat_natCast, putN_succ, putN_succ, putN_zero, mTg]
  have e1 : UInt8.ofNat ((atW l i).toNat / 256 ^ 0) = UInt8.ofNat ((atW l i).toNat % 256) := by
    rw [Nat.pow_zero, Nat.div_one]
    apply UInt8.toNat_inj.1
    simp
  rw [e1, Nat.pow_one, show 4 + 2 * i + 1 = 5 + 2 * i by omega, Nat.add_zero]
set_option linter.unusedSimpArgs false in
theorem markOf_no (l : List Wr) (x : Option Addr) (L c : Nat) (f : Nat → Int) (w : World) (hL : l.length = L) (h63 : L ≤ 4611686018427387904) (hl : IsK wrE w (.slice x L c) l) (hlB : WrB l) (hb : batB (f 0) l = false) :
    Calls Try.prog 61 #[.slice x L c, .agg (gA f)] w fun r w' => r = .panicked (gup 24) ∧ Below w.heap.size w w' := by
  have hB0 : Below w.heap.size w ((w.alloc (.cells (gA f) 106)).alloc (.cells (secA secZ) 44)) := (below_alloc w _).alloc (by simp) _
  have hM := must_any l x L c f ((w.alloc (.cells (gA f) 106)).alloc (.cells (secA secZ) 44)) hL h63 (hl.kept hB0) hlB
  have hm : mustR (f 0) l = .panicked (gup 24) := by unfold mustR; rw [hb]; rfl
  rw [hm] at hM
  have HB0 : Hid _ := hB0
  clear hm hb hB0 hl hlB
  go_enter Try.func61, Try.ntmps61
  go_wp2_with (go_at_call 76; refine hM.mono ?_; rintro e w2 ⟨rfl, hB⟩)
  exact ⟨rfl, rfl, HB0.out.trans (hB.mono HB0.out.size)⟩
set_option linter.unusedSimpArgs false in
set_option maxRecDepth 100000 in
set_option maxHeartbeats 4000000 in
theorem markOf_yes (l : List Wr) (x : Option Addr) (L c : Nat) (f : Nat → Int) (w : World) (hL : l.length = L) (hl : IsK wrE w (.slice x L c) l) (hlB : WrB l) (hb : batB (f 0) l = true) (hf : f 0 ≤ 1024) :
    Calls Try.prog 61 #[.slice x L c, .agg (gA f)] w fun r w' => r = .returned (.agg (secA (marS l))) ∧ Below w.heap.size w w' := by
  obtain ⟨hL1, hL8⟩ := bat_len hb
  rw [hL] at hL1 hL8
  have HAT : Hid (∀ i, i < L → 0 ≤ atW l i ∧ atW l i < 1024) := fun i hi => by
    have := bat_at hb i (by omega)
    omega
  obtain ⟨bl, of, hx⟩ : ∃ bl of, x = some ⟨bl, of, none⟩ := by
    obtain ⟨b, o, e, -⟩ := hl.at 0 _ (List.getElem?_eq_getElem (by omega))
    exact ⟨b, o, e⟩
  have hrng : ∀ i, i < L → ∀ W, Below w.heap.size w W → W.rangeAt bl (of + i * 65) (wrE.enc (l.getD i wrZ)) := fun i hi W hW => by
    have hg : l[i]? = some (l.getD i wrZ) := by rw [List.getD_eq_getElem?_getD, List.getElem?_eq_getElem (by omega)]; rfl
    obtain ⟨b, o, e, hb, hr⟩ := (hl.kept hW).at i _ hg
    rw [hx] at e
    simp only [Option.some.injEq, Addr.mk.injEq, and_true] at e
    obtain ⟨rfl, rfl⟩ := e
    exact hr
  have hm : mustR (f 0) l = .returned (.tuple #[]) := by unfold mustR; rw [hb]; rfl
  have HL : Hid (IsK wrE w (.slice x L c) l) := hl
  have HMu : Hid (∀ W, Below w.heap.size w W → Calls Try.prog 76 #[.slice x L c, .agg (gA f)] W fun r w' => r = .returned (.tuple #[]) ∧ Below W.heap.size W w') := fun W hW => by
    have := must_any l x L c f W hL (by omega) (hl.kept hW) hlB
    rw [hm] at this
    exact this
  clear hm hb hf hlB
  subst hx
  go_enter Try.func61, Try.ntmps61
  go_upto_region 1 with fail
  have hB0 : Below w.heap.size w ((w.alloc (.cells (gA f) 106)).alloc (.cells (secA secZ) 44)) := (below_alloc w _).alloc (by simp) _
  have hC0 : RowC ((w.alloc (.cells (gA f) 106)).alloc (.cells (secA secZ) 44)) w.heap.size (gA f) := (RowC.new w _ _).kept (below_alloc _ _)
  have h40 : ScR ((w.alloc (.cells (gA f) 106)).alloc (.cells (secA secZ) 44)) (w.heap.size + 1) secZ := by
    have := ScR.new (w.alloc (.cells (gA f) 106)) secZ 44
    rw [World.size_alloc] at this; exact this
  obtain ⟨g4, hg4⟩ : ∃ g, w.heap.size + 1 = g := ⟨_, rfl⟩
  obtain ⟨g3, hg3⟩ : ∃ g, w.heap.size = g := ⟨_, rfl⟩
  have hl4 : w.heap.size ≤ g4 := by omega
  rw [hg4] at h40
  rw [hg3] at hC0
  simp only [hg4]
  simp only [hg3]
  clear hg4
  generalize (w.alloc (.cells (gA f) 106)).alloc (.cells (secA secZ) 44) = X at hB0 hC0 h40 ⊢
  have hMu := HMu.out X hB0
  obtain ⟨k1, k2⟩ := hC0
  go_wp2_with fail
  go_at_call 76
  refine hMu.mono ?_
  rintro e Y ⟨rfl, hb1⟩
  clear hMu HMu k1 k2
  have h4 := h40.kept hb1
  have hB := hB0.trans (hb1.mono hB0.size)
  clear hb1 h40 hB0
  have hb3 := run_secB3 Y L hL8
  have hcv : IntKind.u8.wrap (L : Int) = (L : Int) := by rw [IntKind.wrap_u8]; omega
  go_upto_region 3 with fail
  have h5 : ScR (Y.alloc (.cells (secA (mHead L)) 44)) Y.heap.size (mHead L) := ScR.new Y _ 44
  have h4b := h4.kept (below_alloc Y (.cells (secA (mHead L)) 44))
  have hBb := hB.alloc hB.size (.cells (secA (mHead L)) 44)
  obtain ⟨g5, hg5⟩ : ∃ g, Y.heap.size = g := ⟨_, rfl⟩
  have hg5w : w.heap.size ≤ g5 := by rw [← hg5]; exact hB.size
  have hne45 : g4 ≠ g5 := by rw [← hg5]; have := h4.lt; omega
  rw [hg5] at h5
  simp only [hg5]
  generalize Y.alloc (.cells (secA (mHead L)) 44) = Z at h5 h4b hBb ⊢
  clear h4 hB hb3 hcv hg5
  go_wp2_with fail
  go_loopw [17] (fun iv wr => ∃ i : Nat, i ≤ L ∧ iv = .int .i64 i ∧ ScR wr g5 (mTg l i) ∧ ScR wr g4 secZ ∧ Below w.heap.size w wr) (fun iv _ => L - (intOf iv).toNat)
  case atStart => exact ⟨0, by omega, rfl, by rw [mTg, hL]; exact h5, h4b, hBb⟩
  case round =>
    clear h5 h4b hBb
    obtain ⟨i, hi, rfl, h5, h4, hBr⟩ := hrel
    by_cases hlt : i < L
    · obtain ⟨y, hy⟩ : ∃ y, l.getD i wrZ = y := ⟨_, rfl⟩
      have hya : y.1 = atW l i := by rw [← hy]; unfold atW; rfl
      have hr9 := hrng i hlt _ hBr
      rw [hy] at hr9
      obtain ⟨rk, rv⟩ := wr_rg hr9
      clear hy hr9
      obtain ⟨W1, hW1⟩ : ∃ q, wr.alloc (.cells (wrA y) 54) = q := ⟨_, rfl⟩
      have h51 : ScR W1 g5 (mTg l i) := by rw [← hW1]; exact h5.kept (below_alloc _ _)
      have h41 : ScR W1 g4 secZ := by rw [← hW1]; exact h4.kept (below_alloc _ _)
      have hB1 : Below w.heap.size w W1 := by rw [← hW1]; exact hBr.alloc hBr.size _
      have c7 : W1.cell? ⟨wr.heap.size, 0, none⟩ = some (.int .i64 (atW l i)) := by
        rw [← hW1, (RowC.new wr (wrA y) 54).cell 0, wrA_at, hya]
      clear hya
      have hk9 : (i : Int) < (L : Int) := by omega
      have HW1 : Hid _ := hW1
      clear hW1
      go_upto_region 6 with fail
      rw [HW1.out]
      clear rk rv h5 h4 hBr hk9 HW1
      obtain ⟨g7, hg7⟩ : ∃ g, wr.heap.size = g := ⟨_, rfl⟩
      rw [hg7] at c7
      simp only [hg7]
      clear hg7
      obtain ⟨a0, a1⟩ := HAT.out i hlt
      have m1 : IntKind.i64.wrap (2 * (i : Int)) = ((2 * i : Nat) : Int) := by rw [IntKind.wrap_i64]; omega
      have m2 : IntKind.i64.wrap (4 + ((2 * i : Nat) : Int)) = ((4 + 2 * i : Nat) : Int) := by rw [IntKind.wrap_i64]; omega
      have m3 : IntKind.u16.wrap (atW l i) = atW l i := by rw [IntKind.wrap_u16]; omega
      have hput := putU16_any (mTg l i) ((4 + 2 * i : Nat) : Int) (atW l i) W1 (by omega) (by omega) a0 (by omega)
      rw [mTg_put l i (by omega)] at hput
      obtain ⟨j0, hj0⟩ : ∃ j, 2 * i = j := ⟨_, rfl⟩
      obtain ⟨j1, hj1⟩ : ∃ j, 4 + 2 * i = j := ⟨_, rfl⟩
      rw [hj1] at m2 hput
      rw [hj0] at m1 m2
      have H51 : Hid (ScR W1 g5 (mTg l i)) := h51
      obtain ⟨r5, q5⟩ := h51
      clear a0 a1 hj0 hj1
      go_wp2_with fail
      go_at_call 77
      refine hput.mono ?_
      rintro e w3 ⟨rfl, hb3⟩
      clear hput m1 m2 m3 c7 r5 q5
      have h52 := H51.out.kept hb3
      have h42 := h41.kept hb3
      have hB2 := hB1.trans (hb3.mono hB1.size)
      have H53 : Hid (ScR (w3.setRow g5 (secA (mTg l (i + 1)))) g5 (mTg l (i + 1))) := h52.rowsame9 (mTg l (i + 1))
      have H43 : Hid (ScR (w3.setRow g5 (secA (mTg l (i + 1)))) g4 secZ) := h42.rowne9 (secA (mTg l (i + 1))) hne45
      have HB3 : Hid _ := below_row hB2 hg5w (secA (mTg l (i + 1)))
      obtain ⟨r5, q5⟩ := h52
      clear hb3 h41 hB1 h42 hB2
      go_wp2_with fail
      go_roundw
      case rel => exact ⟨i + 1, by omega, by go_num, H53.out, H43.out, HB3.out⟩
      case measure => simp [intOf]; omega
    · obtain rfl : L = i := by omega
      have HMB : Hid (putI (mTg l L) 20 (mSum l).toNat 4 = marB l) := by show _ = _; rw [putI20]; unfold marB; rw [hL]
      have hl := HL.out
      go_upto_region 8 with fail
      obtain ⟨x, hx⟩ : ∃ x, x = (some ⟨bl, of, none⟩ : Option Addr) := ⟨_, rfl⟩
      rw [← hx] at hl ⊢
      clear hx
      refine wp_reliesT [Fx (.agg (secA (mTg l L))), Fx (.slice x L c), Fx (.int .u32 (((mSum l).toNat : Nat) : Int)), Fx (.agg (secA (marB l)))] (by kernel_rfl) (by kernel_rfl) ?_ ?_ ?_
      · repeat' (first | exact all_nil | apply all_cons)
        all_goals intro v y y' hv hb
        all_goals first | exact Fx_mono _ _ _ _ hv hb
      · refine ⟨?_, ?_, ?_, ?_, trivial⟩
        all_goals
          intro ρ x9 hp ρc ρg ρf ho hd
          have o0 : ρ (.tmp 0) = .slice x L c := ho 0 rfl
          have o5 : ρ (.tmp 5) = .pointer (some ⟨g5, 0, none⟩) := ho 5 rfl
          clear ho
          have qs := h5.kept hp
          have rok := qs.1
          have rat := qs.2
          simp only [depsR, depR, slotR, Fx, List.getElem?_cons_succ, List.getElem?_cons_zero, Region.binds, forall_const] at hd
          simp only [guardR]
          go_split_ands
        · go_simp
        · go_simp
        · go_simp
          refine (sumOf_any l x L c x9 hL hL1 hL8 (hl.kept (hBr.trans (hp.mono hBr.size)))).mono ?_
          rintro e w' ⟨rfl, hw⟩
          exact ⟨_, rfl, rfl, hw⟩
        · have hlt9 := (mSum l).isLt
          go_simp
          refine (putU32_any (mTg l L) 20 ((mSum l).toNat : Nat) x9 (by omega) (by omega) (by omega) (by omega)).mono ?_
          rintro e w' ⟨rfl, hw⟩
          exact ⟨_, rfl, by show Value.agg _ = _; rw [Int.toNat_natCast, HMB.out], hw⟩
      · intro vs x2 hp hw
        simp only [owed, Fx] at hw
        obtain ⟨e0, e1, e2, e3, -⟩ := hw
        simp only [List.length_cons, List.length_nil, List.take_succ_cons, List.take_zero, List.drop_succ_cons, List.drop_zero, asg, List.cons_append, List.nil_append, e0, e1, e2, e3]
        clear e0 e1 e2 e3
        have h52 := h5.kept hp
        have h42 := h4.kept hp
        have hB2 := hBr.trans (hp.mono hBr.size)
        have h53 := h52.rowsame9 (marB l)
        have h43 := h42.rowne9 (secA (marB l)) hne45
        have hB3 := below_row hB2 hg5w (secA (marB l))
        obtain ⟨r5, q5⟩ := h52
        clear h5 h4 hBr hp hl
        go_upto_region 9 with fail
        generalize x2.setRow g5 (secA (marB l)) = V at h53 h43 hB3 ⊢
        clear r5 q5 h42 hB2
        obtain ⟨r5, q5⟩ := h53
        have hse := seal_any (marB l) V
        go_wp2_with fail
        go_at_call 80
        refine hse.mono ?_
        rintro e w5 ⟨rfl, hb5⟩
        have h45 := h43.kept hb5
        have hB5 := hB3.trans (hb5.mono hB3.size)
        have HR9 : Hid (ScR (w5.setRow g4 (secA (sealS (marB l)))) g4 (sealS (marB l))) := h45.rowsame9 _
        have HB9 : Hid _ := below_row hB5 hl4 (secA (sealS (marB l)))
        obtain ⟨r4, q4⟩ := h45
        clear hse h43 hB3 hB5 hb5 r5 q5
        go_wp2
        refine bodyPost_sec 4 g4 rfl rfl rfl HR9.out.1 ⟨?_, HB9.out⟩
        rw [HR9.out.2]; rfl
end Go.Proofs.Ytpckdkgbeemalaa
namespace Go.Proofs.Ytpckdkgbeemalaa
open Go.RowKit

/-! mark.trying: what is given up is caught. -/
theorem catch_pan (p : Addr) (z e : Int) (w : World) (hc : w.cell? p = some (.int .i64 z)) (hz : w.frozen? p = false) :
    CallsD Try.prog 71 #[.pointer (some p)] (.panicking (gup e)) w fun r u' w' =>
      r = .returned (.tuple #[]) ∧ u' = .panicking [{ v := .iface 29 (.int .i64 e), recovered := true }] ∧ w' = w.setCell p (.int .i64 e) := by
  have hta : ∀ W : World, (Instr.typeAssert (.iface 29 (.int .i64 e)) 20 29 false).run Try.prog W = .ok (.int .i64 e) W := fun _ => by kernel_rfl
  refine callsD_of_wpS Try.func71 rfl fun c₀ cs hu => ?_
  apply wpS_seq
  apply wpS_region
  simp [wpOpsS, go_sem, recoverD, hu, gup, Try.ntmps71, Exit.thenS]
  apply wpS_seq
  apply wpS_region
  simp [wpOpsS, go_sem, Exit.thenS]
  refine wpS_cond (t := true) (by simp [Act.eval, Array.replicate]) ?_
  simp only [if_true]
  apply wpS_region
  simp [wpOpsS, go_sem, hta, hc, hz, bodyPostS, results, Array.replicate, Try.results71]
theorem catch_idle (p : Addr) (w : World) :
    CallsD Try.prog 71 #[.pointer (some p)] .returning w fun r u' w' => r = .returned (.tuple #[]) ∧ u' = .returning ∧ w' = w := by
  refine callsD_of_wpS Try.func71 rfl fun c₀ cs hu => ?_
  apply wpS_seq
  apply wpS_region
  simp [wpOpsS, go_sem, recoverD, hu, Try.ntmps71, Exit.thenS]
  apply wpS_seq
  apply wpS_region
  simp [wpOpsS, go_sem, Exit.thenS]
  refine wpS_cond (t := false) (by simp [Act.eval, Array.replicate]) ?_
  simp only [Bool.false_eq_true, if_false]
  refine wpS_of_wp (wp_skip ?_)
  cases c₀
  simp_all [bodyPostS, results, Try.results71]
theorem trying_put_yes (a b s : Addr) (w : World) (R : World → Prop)
    (hdo : Calls Try.prog 60 #[.pointer (some a), .pointer (some b), .pointer (some s)] (w.alloc (.cells #[.int .i64 0] 29)) fun e w1 => e = .returned (.tuple #[]) ∧ R w1 ∧ RowC w1 w.heap.size #[.int .i64 0]) :
    Calls Try.prog 53 #[.func (.func 60) #[] #[.pointer (some a), .pointer (some b), .pointer (some s)]] w fun r w' => r = .returned (.int .i64 0) ∧ ∃ w1, R w1 ∧ w' = w1.setCell ⟨w.heap.size, 0, none⟩ (.int .i64 0) := by
  have hmf : ∀ (fn : Fn) (first cap : Array Value) (w : World), (Instr.makeFunc fn first cap).run Try.prog w = .ok (.func fn first cap) w := fun _ _ _ _ => rfl
  go_enter_defers Try.func53, Try.ntmps53
  go_wp2_with (go_at_call 60; refine hdo.mono ?_; rintro e w1 ⟨rfl, hR, hC⟩; have c0 : w1.cell? ⟨w.heap.size, 0, none⟩ = some (.int .i64 0) := hC.cell 0; have f0 := hC.frozen 0; have HCS : Hid (∀ v, RowC (w1.setCell ⟨w.heap.size, 0, none⟩ v) w.heap.size (#[Value.int .i64 0].setIfInBounds 0 v)) := fun v => hC.set 0 v; clear hC)
  refine leaves_cons (f := 71) (args := #[.pointer (some ⟨w.heap.size, 0, none⟩)]) (by simp) (by simp [go_sem]) ?_
  refine (catch_idle ⟨w.heap.size, 0, none⟩ _).mono ?_
  rintro e u' w'' ⟨rfl, rfl, rfl⟩
  have c1 : (w1.setCell ⟨w.heap.size, 0, none⟩ (.int .i64 0)).cell? ⟨w.heap.size, 0, none⟩ = some (.int .i64 0) := (HCS.out _).cell 0
  simp [Leaves, settle, results, Try.results53, go_sem, c1]
  exact ⟨w1, hR, rfl⟩
theorem trying_put_no (a b s : Addr) (z : Int) (w : World) (R : World → Prop)
    (hdo : Calls Try.prog 60 #[.pointer (some a), .pointer (some b), .pointer (some s)] (w.alloc (.cells #[.int .i64 0] 29)) fun e w1 => e = .panicked (gup z) ∧ R w1 ∧ RowC w1 w.heap.size #[.int .i64 0]) :
    Calls Try.prog 53 #[.func (.func 60) #[] #[.pointer (some a), .pointer (some b), .pointer (some s)]] w fun r w' => r = .returned (.int .i64 z) ∧ ∃ w1, R w1 ∧ w' = w1.setCell ⟨w.heap.size, 0, none⟩ (.int .i64 z) := by
  have hmf : ∀ (fn : Fn) (first cap : Array Value) (w : World), (Instr.makeFunc fn first cap).run Try.prog w = .ok (.func fn first cap) w := fun _ _ _ _ => rfl
  go_enter_defers Try.func53, Try.ntmps53
  go_wp2_with (go_at_call 60; refine hdo.mono ?_; rintro e w1 ⟨rfl, hR, hC⟩; have c0 : w1.cell? ⟨w.heap.size, 0, none⟩ = some (.int .i64 0) := hC.cell 0; have f0 := hC.frozen 0; have HCS : Hid (∀ v, RowC (w1.setCell ⟨w.heap.size, 0, none⟩ v) w.heap.size (#[Value.int .i64 0].setIfInBounds 0 v)) := fun v => hC.set 0 v; clear hC)
  refine leaves_cons (f := 71) (args := #[.pointer (some ⟨w.heap.size, 0, none⟩)]) (by simp) (by simp [go_sem]) ?_
  refine (catch_pan ⟨w.heap.size, 0, none⟩ 0 z _ c0 f0).mono ?_
  rintro e u' w'' ⟨rfl, rfl, rfl⟩
  have c1 : (w1.setCell ⟨w.heap.size, 0, none⟩ (.int .i64 z)).cell? ⟨w.heap.size, 0, none⟩ = some (.int .i64 z) := (HCS.out _).cell 0
  simp [Leaves, settle, results, Try.results53, go_sem, c1]
  exact ⟨w1, hR, rfl⟩
theorem trying_state_yes (a b s d l : Addr) (w : World) (R : World → Prop)
    (hdo : Calls Try.prog 54 #[.pointer (some a), .pointer (some b), .pointer (some s), .pointer (some d), .pointer (some l)] (w.alloc (.cells #[.int .i64 0] 29)) fun e w1 => e = .returned (.tuple #[]) ∧ R w1 ∧ RowC w1 w.heap.size #[.int .i64 0]) :
    Calls Try.prog 53 #[.func (.func 54) #[] #[.pointer (some a), .pointer (some b), .pointer (some s), .pointer (some d), .pointer (some l)]] w fun r w' => r = .returned (.int .i64 0) ∧ ∃ w1, R w1 ∧ w' = w1.setCell ⟨w.heap.size, 0, none⟩ (.int .i64 0) := by
  have hmf : ∀ (fn : Fn) (first cap : Array Value) (w : World), (Instr.makeFunc fn first cap).run Try.prog w = .ok (.func fn first cap) w := fun _ _ _ _ => rfl
  go_enter_defers Try.func53, Try.ntmps53
  go_wp2_with (go_at_call 54; refine hdo.mono ?_; rintro e w1 ⟨rfl, hR, hC⟩; have c0 : w1.cell? ⟨w.heap.size, 0, none⟩ = some (.int .i64 0) := hC.cell 0; have f0 := hC.frozen 0; have HCS : Hid (∀ v, RowC (w1.setCell ⟨w.heap.size, 0, none⟩ v) w.heap.size (#[Value.int .i64 0].setIfInBounds 0 v)) := fun v => hC.set 0 v; clear hC)
  refine leaves_cons (f := 71) (args := #[.pointer (some ⟨w.heap.size, 0, none⟩)]) (by simp) (by simp [go_sem]) ?_
  refine (catch_idle ⟨w.heap.size, 0, none⟩ _).mono ?_
  rintro e u' w'' ⟨rfl, rfl, rfl⟩
  have c1 : (w1.setCell ⟨w.heap.size, 0, none⟩ (.int .i64 0)).cell? ⟨w.heap.size, 0, none⟩ = some (.int .i64 0) := (HCS.out _).cell 0
  simp [Leaves, settle, results, Try.results53, go_sem, c1]
  exact ⟨w1, hR, rfl⟩
theorem trying_state_no (a b s d l : Addr) (z : Int) (w : World) (R : World → Prop)
    (hdo : Calls Try.prog 54 #[.pointer (some a), .pointer (some b), .pointer (some s), .pointer (some d), .pointer (some l)] (w.alloc (.cells #[.int .i64 0] 29)) fun e w1 => e = .panicked (gup z) ∧ R w1 ∧ RowC w1 w.heap.size #[.int .i64 0]) :
    Calls Try.prog 53 #[.func (.func 54) #[] #[.pointer (some a), .pointer (some b), .pointer (some s), .pointer (some d), .pointer (some l)]] w fun r w' => r = .returned (.int .i64 z) ∧ ∃ w1, R w1 ∧ w' = w1.setCell ⟨w.heap.size, 0, none⟩ (.int .i64 z) := by
  have hmf : ∀ (fn : Fn) (first cap : Array Value) (w : World), (Instr.makeFunc fn first cap).run Try.prog w = .ok (.func fn first cap) w := fun _ _ _ _ => rfl
  go_enter_defers Try.func53, Try.ntmps53
  go_wp2_with (go_at_call 54; refine hdo.mono ?_; rintro e w1 ⟨rfl, hR, hC⟩; have c0 : w1.cell? ⟨w.heap.size, 0, none⟩ = some (.int .i64 0) := hC.cell 0; have f0 := hC.frozen 0; have HCS : Hid (∀ v, RowC (w1.setCell ⟨w.heap.size, 0, none⟩ v) w.heap.size (#[Value.int .i64 0].setIfInBounds 0 v)) := fun v => hC.set 0 v; clear hC)
  refine leaves_cons (f := 71) (args := #[.pointer (some ⟨w.heap.size, 0, none⟩)]) (by simp) (by simp [go_sem]) ?_
  refine (catch_pan ⟨w.heap.size, 0, none⟩ 0 z _ c0 f0).mono ?_
  rintro e u' w'' ⟨rfl, rfl, rfl⟩
  have c1 : (w1.setCell ⟨w.heap.size, 0, none⟩ (.int .i64 z)).cell? ⟨w.heap.size, 0, none⟩ = some (.int .i64 z) := (HCS.out _).cell 0
  simp [Leaves, settle, results, Try.results53, go_sem, c1]
  exact ⟨w1, hR, rfl⟩
end Go.Proofs.Ytpckdkgbeemalaa
namespace Go.Proofs.Ytpckdkgbeemalaa
open Go.RowKit

/-! mark.Put -/
theorem geoF_0 {n : Int} (h0 : 64 ≤ n) (h1 : n ≤ 1024) : geoF n 0 = n := by unfold geoF; simp [h0, h1]
set_option linter.unusedSimpArgs false in
set_option maxRecDepth 100000 in
theorem put1_size (x : Option Addr) (L c ga gb gs : Nat) (n : Int) (W : World) (hn : ¬ (64 ≤ n ∧ n ≤ 1024)) (h0 : -9223372036854775808 ≤ n) (h1 : n ≤ 9223372036854775807)
    (ha : RowC W ga #[.slice x L c]) (hb : RowC W gb #[.int .i64 n]) :
    Calls Try.prog 60 #[.pointer (some ⟨ga, 0, none⟩), .pointer (some ⟨gb, 0, none⟩), .pointer (some ⟨gs, 0, none⟩)] W fun r w1 => r = .panicked (gup 22) ∧ Below W.heap.size W w1 := by
  go_enter Try.func60, Try.ntmps60
  go_upto_region 0 with fail
  refine wp_reliesP (fun ch w' => ch = gup 22 ∧ Below W.heap.size W w') [Fx (.slice x L c), Fx (.int .i64 n), (fun _ _ => False), (fun _ _ => False)] (by kernel_rfl) (by kernel_rfl) ?_ ?_ ?_ ?_
  · repeat' (first | exact all_nil | apply all_cons)
    all_goals intro v y y' hv hb
    all_goals first | exact Fx_mono _ _ _ _ hv hb | exact hv.elim
  · refine ⟨?_, ?_, ?_, ?_, trivial⟩
    all_goals
      intro ρ x9 hp ρc ρg ρf ho hd
      have o0 : ρ (.tmp 0) = .pointer (some ⟨ga, 0, none⟩) := ho 0 rfl
      have o1 : ρ (.tmp 1) = .pointer (some ⟨gb, 0, none⟩) := ho 1 rfl
      have o2 : ρ (.tmp 2) = .pointer (some ⟨gs, 0, none⟩) := ho 2 rfl
      clear ho
      have qa := (ha.kept hp).cell 0
      have qb := (hb.kept hp).cell 0
      simp at qa qb
      simp only [depsR, depR, slotR, Fx, List.getElem?_cons_succ, List.getElem?_cons_zero, Region.binds, forall_const] at hd
      simp only [guardR]
      go_split_ands
    · go_simp
    · go_simp
    · go_simp
      refine (disk_no n x9 hn h0 h1).mono ?_
      rintro e w' ⟨rfl, hw⟩
      first | exact .inr ⟨_, rfl, rfl, hp.trans (hw.mono hp.size)⟩ | exact ⟨_, rfl, rfl, hp.trans (hw.mono hp.size)⟩
    · exfalso; assumption
  · intro vs x2 hp hw
    simp only [owed, Fx] at hw
    exact (hw.2.2.1).elim
  · intro a9 ch w' hd hz
    exact ⟨hd, by rw [hz.1], hz.2⟩
set_option linter.unusedSimpArgs false in
set_option maxRecDepth 100000 in
theorem put1_bat (l : List Wr) (x : Option Addr) (L c ga gb gs : Nat) (n : Int) (W : World) (h0 : 64 ≤ n) (h1 : n ≤ 1024) (hL : l.length = L) (h63 : L ≤ 4611686018427387904) (hl : IsK wrE W (.slice x L c) l) (hlB : WrB l) (hbat : batB n l = false)
    (ha : RowC W ga #[.slice x L c]) (hb : RowC W gb #[.int .i64 n]) :
    Calls Try.prog 60 #[.pointer (some ⟨ga, 0, none⟩), .pointer (some ⟨gb, 0, none⟩), .pointer (some ⟨gs, 0, none⟩)] W fun r w1 => r = .panicked (gup 24) ∧ Below W.heap.size W w1 := by
  have hf := geoF_0 h0 h1
  go_enter Try.func60, Try.ntmps60
  go_upto_region 0 with fail
  refine wp_reliesP (fun ch w' => ch = gup 24 ∧ Below W.heap.size W w') [Fx (.slice x L c), Fx (.int .i64 n), Fx (.agg (gA (geoF n))), (fun _ _ => False)] (by kernel_rfl) (by kernel_rfl) ?_ ?_ ?_ ?_
  · repeat' (first | exact all_nil | apply all_cons)
    all_goals intro v y y' hv hb
    all_goals first | exact Fx_mono _ _ _ _ hv hb | exact hv.elim
  · refine ⟨?_, ?_, ?_, ?_, trivial⟩
    all_goals
      intro ρ x9 hp ρc ρg ρf ho hd
      have o0 : ρ (.tmp 0) = .pointer (some ⟨ga, 0, none⟩) := ho 0 rfl
      have o1 : ρ (.tmp 1) = .pointer (some ⟨gb, 0, none⟩) := ho 1 rfl
      have o2 : ρ (.tmp 2) = .pointer (some ⟨gs, 0, none⟩) := ho 2 rfl
      clear ho
      have qa := (ha.kept hp).cell 0
      have qb := (hb.kept hp).cell 0
      simp at qa qb
      simp only [depsR, depR, slotR, Fx, List.getElem?_cons_succ, List.getElem?_cons_zero, Region.binds, forall_const] at hd
      simp only [guardR]
      go_split_ands
    · go_simp
    · go_simp
    · go_simp
      refine (disk_yes n x9 h0 h1).mono ?_
      rintro e w' ⟨rfl, hw⟩
      first | exact .inl ⟨_, rfl, rfl, hw⟩ | exact ⟨_, rfl, rfl, hw⟩
    · go_simp
      refine (markOf_no l x L c (geoF n) x9 hL h63 (hl.kept hp) hlB (by rw [hf]; exact hbat)).mono ?_
      rintro e w' ⟨rfl, hw⟩
      first | exact .inr ⟨_, rfl, rfl, hp.trans (hw.mono hp.size)⟩ | exact ⟨_, rfl, rfl, hp.trans (hw.mono hp.size)⟩
  · intro vs x2 hp hw
    simp only [owed, Fx] at hw
    exact (hw.2.2.2.1).elim
  · intro a9 ch w' hd hz
    exact ⟨hd, by rw [hz.1], hz.2⟩
set_option linter.unusedSimpArgs false in
set_option maxRecDepth 100000 in
theorem put1_yes (l : List Wr) (x : Option Addr) (L c ga gb gs : Nat) (n : Int) (W : World) (h0 : 64 ≤ n) (h1 : n ≤ 1024) (hL : l.length = L) (hl : IsK wrE W (.slice x L c) l) (hlB : WrB l) (hbat : batB n l = true)
    (ha : RowC W ga #[.slice x L c]) (hb : RowC W gb #[.int .i64 n]) (hs : ScR W gs secZ) :
    Calls Try.prog 60 #[.pointer (some ⟨ga, 0, none⟩), .pointer (some ⟨gb, 0, none⟩), .pointer (some ⟨gs, 0, none⟩)] W fun r w1 => r = .returned (.tuple #[]) ∧ ∃ w0, Below W.heap.size W w0 ∧ w1 = w0.setRow gs (secA (marS l)) := by
  have hf := geoF_0 h0 h1
  go_enter Try.func60, Try.ntmps60
  go_upto_region 0 with fail
  refine wp_reliesP (fun _ _ => False) [Fx (.slice x L c), Fx (.int .i64 n), Fx (.agg (gA (geoF n))), Fx (.agg (secA (marS l)))] (by kernel_rfl) (by kernel_rfl) ?_ ?_ ?_ ?_
  · repeat' (first | exact all_nil | apply all_cons)
    all_goals intro v y y' hv hb
    all_goals first | exact Fx_mono _ _ _ _ hv hb | exact hv.elim
  · refine ⟨?_, ?_, ?_, ?_, trivial⟩
    all_goals
      intro ρ x9 hp ρc ρg ρf ho hd
      have o0 : ρ (.tmp 0) = .pointer (some ⟨ga, 0, none⟩) := ho 0 rfl
      have o1 : ρ (.tmp 1) = .pointer (some ⟨gb, 0, none⟩) := ho 1 rfl
      have o2 : ρ (.tmp 2) = .pointer (some ⟨gs, 0, none⟩) := ho 2 rfl
      clear ho
      have qa := (ha.kept hp).cell 0
      have qb := (hb.kept hp).cell 0
      simp at qa qb
      simp only [depsR, depR, slotR, Fx, List.getElem?_cons_succ, List.getElem?_cons_zero, Region.binds, forall_const] at hd
      simp only [guardR]
      go_split_ands
    · go_simp
    · go_simp
    · go_simp
      refine (disk_yes n x9 h0 h1).mono ?_
      rintro e w' ⟨rfl, hw⟩
      first | exact .inl ⟨_, rfl, rfl, hw⟩ | exact ⟨_, rfl, rfl, hw⟩
    · go_simp
      refine (markOf_yes l x L c (geoF n) x9 hL (hl.kept hp) hlB (by rw [hf]; exact hbat) (by rw [hf]; exact h1)).mono ?_
      rintro e w' ⟨rfl, hw⟩
      first | exact .inl ⟨_, rfl, rfl, hw⟩ | exact ⟨_, rfl, rfl, hw⟩
  · intro vs x2 hp hw
    simp only [owed, Fx] at hw
    obtain ⟨e0, e1, e2, e3, -⟩ := hw
    simp only [List.length_cons, List.length_nil, List.take_succ_cons, List.take_zero, List.drop_succ_cons, List.drop_zero, asg, List.cons_append, List.nil_append, e0, e1, e2, e3]
    clear e0 e1 e2 e3
    have h5 := hs.kept hp
    have HP : Hid _ := hp
    obtain ⟨r5, q5⟩ := h5
    clear hp ha hb hs hl hlB hbat h0 h1 hf
    go_wp2_with fail
    go_end0
    exact ⟨rfl, _, HP.out, rfl⟩
  · intro a9 ch w' hd hz
    exact hz.elim
theorem ScR.setc9 {w : World} {g k : Nat} {s : Sc} (h : ScR w k s) (v : Value) (hn : g ≠ k) : ScR (w.setCell ⟨g, 0, none⟩ v) k s := h.set_ne 0 v hn
/-- What trying answers of Put's own function. -/
theorem tput_any (l : List Wr) (x : Option Addr) (L c ga gb g4 g6 B : Nat) (n : Int) (w X : World) (hL : l.length = L) (h63 : L ≤ 4611686018427387904) (hl : IsK wrE w (.slice x L c) l) (hlB : WrB l) (h0 : -9223372036854775808 ≤ n) (h1 : n ≤ 9223372036854775807)
    (hBB : B = w.heap.size) (hB : Below B w X) (ha : RowC X ga #[.slice x L c]) (hb : RowC X gb #[.int .i64 n]) (h4 : ScR X g4 secZ) (h6 : ScR X g6 secZ) (hg6 : B ≤ g6) (hne : g4 ≠ g6) :
    Calls Try.prog 53 #[.func (.func 60) #[] #[.pointer (some ⟨ga, 0, none⟩), .pointer (some ⟨gb, 0, none⟩), .pointer (some ⟨g6, 0, none⟩)]] X fun r w' => r = .returned (.int .i64 (mPutE l n)) ∧ ScR w' g6 (mPutS l n) ∧ ScR w' g4 secZ ∧ Below B w w' := by
  subst hBB
  obtain ⟨X1, hX1⟩ : ∃ q, X.alloc (.cells #[.int .i64 0] 29) = q := ⟨_, rfl⟩
  have hA := below_alloc X (.cells #[.int .i64 0] 29)
  have hC := RowC.new X #[.int .i64 0] 29
  have hsz : X1.heap.size = X.heap.size + 1 := by rw [← hX1]; simp
  rw [hX1] at hA hC
  have h6X := h6.lt
  have h4X := h4.lt
  have hB1 : Below w.heap.size w X1 := hB.trans (hA.mono hB.size)
  have hX := hB.size
  by_cases h : 64 ≤ n ∧ n ≤ 1024
  · have hg : geoOk n = true := by unfold geoOk; simp [h]
    cases hbat : batB n l
    · have := trying_put_no ⟨ga, 0, none⟩ ⟨gb, 0, none⟩ ⟨g6, 0, none⟩ 24 X (fun w1 => Below X1.heap.size X1 w1) (by
        rw [hX1]
        refine (put1_bat l x L c ga gb g6 n X1 h.1 h.2 hL h63 (hl.kept hB1) hlB hbat (ha.kept hA) (hb.kept hA)).mono ?_
        rintro r w1 ⟨rfl, hw⟩
        exact ⟨rfl, hw, hC.kept hw⟩)
      refine this.mono ?_
      rintro r w' ⟨rfl, w1, hw, rfl⟩
      have e1 : mPutE l n = 24 := by unfold mPutE; rw [hg, hbat]; rfl
      have e2 : mPutS l n = secZ := by unfold mPutS; rw [hg, hbat]; rfl
      rw [e1, e2]
      exact ⟨rfl, ((h6.kept hA).kept hw).setc9 _ (by omega), ((h4.kept hA).kept hw).setc9 _ (by omega), (hB1.trans (hw.mono (by omega))).setCell (p := ⟨X.heap.size, 0, none⟩) hX _⟩
    · have := trying_put_yes ⟨ga, 0, none⟩ ⟨gb, 0, none⟩ ⟨g6, 0, none⟩ X (fun w1 => ∃ w0, Below X1.heap.size X1 w0 ∧ w1 = w0.setRow g6 (secA (marS l))) (by
        rw [hX1]
        refine (put1_yes l x L c ga gb g6 n X1 h.1 h.2 hL (hl.kept hB1) hlB hbat (ha.kept hA) (hb.kept hA) (h6.kept hA)).mono ?_
        rintro r w1 ⟨rfl, w0, hw, rfl⟩
        exact ⟨rfl, ⟨w0, hw, rfl⟩, (hC.kept hw).setRow_ne _ (by omega)⟩)
      refine this.mono ?_
      rintro r w' ⟨rfl, w1, ⟨w0, hw, rfl⟩, rfl⟩
      have e1 : mPutE l n = 0 := by unfold mPutE; rw [hg, hbat]; rfl
      have e2 : mPutS l n = marS l := by unfold mPutS; rw [hg, hbat]; rfl
      rw [e1, e2]
      exact ⟨rfl, (((h6.kept hA).kept hw).rowsame9 _).setc9 _ (by omega), (((h4.kept hA).kept hw).rowne9 _ hne).setc9 _ (by omega), (below_row (hB1.trans (hw.mono (by omega))) hg6 _).setCell (p := ⟨X.heap.size, 0, none⟩) hX _⟩
  · have hg : geoOk n = false := by
      unfold geoOk
      rw [Bool.and_eq_false_iff, decide_eq_false_iff_not, decide_eq_false_iff_not]
      omega
    have := trying_put_no ⟨ga, 0, none⟩ ⟨gb, 0, none⟩ ⟨g6, 0, none⟩ 22 X (fun w1 => Below X1.heap.size X1 w1) (by
      rw [hX1]
      refine (put1_size x L c ga gb g6 n X1 h h0 h1 (ha.kept hA) (hb.kept hA)).mono ?_
      rintro r w1 ⟨rfl, hw⟩
      exact ⟨rfl, hw, hC.kept hw⟩)
    refine this.mono ?_
    rintro r w' ⟨rfl, w1, hw, rfl⟩
    have e1 : mPutE l n = 22 := by unfold mPutE; rw [hg]; rfl
    have e2 : mPutS l n = secZ := by unfold mPutS; rw [hg]; rfl
    rw [e1, e2]
    exact ⟨rfl, ((h6.kept hA).kept hw).setc9 _ (by omega), ((h4.kept hA).kept hw).setc9 _ (by omega), (hB1.trans (hw.mono (by omega))).setCell (p := ⟨X.heap.size, 0, none⟩) hX _⟩
set_option linter.unusedSimpArgs false in
theorem mPutOk : MPutOk := by
  intro l x L c n w hL h40 hl hlB hn
  obtain ⟨S, hS⟩ : ∃ s, mPutS l n = s := ⟨_, rfl⟩
  obtain ⟨E, hE⟩ : ∃ s, mPutE l n = s := ⟨_, rfl⟩
  have hT := fun ga gb g4 g6 B X => tput_any l x L c ga gb g4 g6 B n w X hL (by omega) hl hlB hn.1 hn.2
  rw [hS, hE] at hT ⊢
  clear hS hE hl hlB hn
  have hmf : ∀ (fn : Fn) (first cap : Array Value) (w : World), (Instr.makeFunc fn first cap).run Try.prog w = .ok (.func fn first cap) w := fun _ _ _ _ => rfl
  go_enter Try.func36, Try.ntmps36
  go_upto_region 2 with fail
  obtain ⟨X, hX⟩ : ∃ q, (((w.alloc (.cells #[.slice x L c] 23)).alloc (.cells #[.int .i64 n] 3)).alloc (.cells (secA secZ) 44)).alloc (.cells (secA secZ) 44) = q := ⟨_, rfl⟩
  have hB : Below w.heap.size w X := by rw [← hX]; exact (((below_alloc w _).alloc (by simp) _).alloc (by simp; omega) _).alloc (by simp; omega) _
  have ha : RowC X w.heap.size #[.slice x L c] := by rw [← hX]; exact (((RowC.new w _ _).kept (below_alloc _ _)).kept (below_alloc _ _)).kept (below_alloc _ _)
  have hb : RowC X (w.heap.size + 1) #[.int .i64 n] := by
    have := ((RowC.new (w.alloc (.cells #[.slice x L c] 23)) #[.int .i64 n] 3).kept (below_alloc _ (.cells (secA secZ) 44))).kept (below_alloc _ (.cells (secA secZ) 44))
    rw [hX, World.size_alloc] at this; exact this
  have h4 : ScR X (w.heap.size + 1 + 1) secZ := by
    have := (ScR.new ((w.alloc (.cells #[.slice x L c] 23)).alloc (.cells #[.int .i64 n] 3)) secZ 44).kept (below_alloc _ (.cells (secA secZ) 44))
    rw [hX, World.size_alloc, World.size_alloc] at this; exact this
  have h6 : ScR X (w.heap.size + 1 + 1 + 1) secZ := by
    have := ScR.new (((w.alloc (.cells #[.slice x L c] 23)).alloc (.cells #[.int .i64 n] 3)).alloc (.cells (secA secZ) 44)) secZ 44
    rw [hX, World.size_alloc, World.size_alloc, World.size_alloc] at this; exact this
  have hC := hT w.heap.size (w.heap.size + 1) (w.heap.size + 1 + 1) (w.heap.size + 1 + 1 + 1) w.heap.size X rfl hB ha hb h4 h6 (by omega) (by omega)
  have HX : Hid _ := hX
  clear hT hB ha hb h4 h6 hX
  rw [HX.out]
  have hl4 : w.heap.size ≤ w.heap.size + 1 + 1 := by omega
  obtain ⟨g6, hg6⟩ : ∃ g, w.heap.size + 1 + 1 + 1 = g := ⟨_, rfl⟩
  obtain ⟨g4, hg4⟩ : ∃ g, w.heap.size + 1 + 1 = g := ⟨_, rfl⟩
  obtain ⟨gb, hgb⟩ : ∃ g, w.heap.size + 1 = g := ⟨_, rfl⟩
  obtain ⟨ga, hga⟩ : ∃ g, w.heap.size = g := ⟨_, rfl⟩
  rw [hg6, hg4, hgb] at hC
  rw [hg4] at hl4
  simp only [hg6]
  simp only [hg4]
  simp only [hgb]
  simp only [hga] at hC ⊢
  have hl4' : ga ≤ g4 := by omega
  have HG : Hid (w.heap.size = ga) := hga
  clear hg6 hg4 hgb hga HX hl4
  go_wp2_with fail
  go_at_call 53
  refine hC.mono ?_
  rintro e w1 ⟨rfl, h6, h4, hB⟩
  have HR9 : Hid (ScR (w1.setRow g4 (secA S)) g4 S) := h4.rowsame9 _
  have HB9 : Hid (Below ga w (w1.setRow g4 (secA S))) := below_row hB hl4' _
  obtain ⟨r6, q6⟩ := h6
  obtain ⟨r4, q4⟩ := h4
  clear hC hB
  go_wp2
  exact sec_bodyPost2 4 5 g4 S rfl rfl rfl HR9.out ⟨rfl, by rw [HG.out]; exact HB9.out⟩
end Go.Proofs.Ytpckdkgbeemalaa
