import Derived.Test.YtgnjokbabecbdaaQMrk3
namespace Go.Proofs.Ytgnjokbabecbdaa
open Go.RowKit

/-! mark.markOf -/
theorem mTg_put (l : List Wr) (i : Nat) (hi : i < 8) : putI (mTg l i) ((4 + 2 * i : Nat) : Int) (atW l i).toNat 2 = mTg l (i + 1) := by
  unfold putI
  rw [if_pos (by rw [inB_iff]; omega), Int.toNat_natCast, putN_succ, putN_succ, putN_zero, mTg]
  have e1 : UInt8.ofNat ((atW l i).toNat / 256 ^ 0) = UInt8.ofNat ((atW l i).toNat % 256) := by
    rw [Nat.pow_zero, Nat.div_one]
    apply UInt8.toNat_inj.1
    simp
  rw [e1, Nat.pow_one, show 4 + 2 * i + 1 = 5 + 2 * i by omega, Nat.add_zero]
set_option linter.unusedSimpArgs false in
theorem markOf_no (l : List Wr) (x : Option Addr) (L c : Nat) (f : Nat → Int) (w : World) (hL : l.length = L) (h63 : L ≤ 4611686018427387904) (hl : IsK wrE w (.slice x L c) l) (hlB : WrB l) (hb : batB (f 0) l = false) :
    Calls Try.prog 17 #[.slice x L c, .agg (gA f)] w fun r w' => r = .panicked (gup 24) ∧ Below w.heap.size w w' := by
  have hB0 : Below w.heap.size w ((w.alloc (.cells (gA f) 50)).alloc (.cells (secA secZ) 28)) := (below_alloc w _).alloc (by simp) _
  have hM := must_any l x L c f ((w.alloc (.cells (gA f) 50)).alloc (.cells (secA secZ) 28)) hL h63 (hl.kept hB0) hlB
  have hm : mustR (f 0) l = .panicked (gup 24) := by unfold mustR; rw [hb]; rfl
  rw [hm] at hM
  have HB0 : Hid _ := hB0
  clear hm hb hB0 hl hlB
  go_enter Try.func17, Try.ntmps17
  go_wp2_with (go_at_call 29; refine hM.mono ?_; rintro e w2 ⟨rfl, hB⟩)
  exact ⟨rfl, rfl, HB0.out.trans (hB.mono HB0.out.size)⟩
set_option linter.unusedSimpArgs false in
set_option maxRecDepth 100000 in
set_option maxHeartbeats 4000000 in
theorem markOf_yes (l : List Wr) (x : Option Addr) (L c : Nat) (f : Nat → Int) (w : World) (hL : l.length = L) (hl : IsK wrE w (.slice x L c) l) (hlB : WrB l) (hb : batB (f 0) l = true) (hf : f 0 ≤ 1024) :
    Calls Try.prog 17 #[.slice x L c, .agg (gA f)] w fun r w' => r = .returned (.agg (secA (marS l))) ∧ Below w.heap.size w w' := by
  obtain ⟨hL1, hL8⟩ := bat_len hb
  rw [hL] at hL1 hL8
  have HAT : Hid (∀ i, i < L → 0 ≤ atW l i ∧ atW l i < 1024) := fun i hi => by
    have := bat_at hb i (by omega)
    omega
  obtain ⟨bl, of, hx⟩ : ∃ bl of, x = some ⟨bl, of, none⟩ := by
    obtain ⟨b, o, e, -⟩ := hl.at 0 _ (List.getElem?_eq_getElem (by omega))
    exact ⟨b, o, e⟩
  have hrng : ∀ i, i < L → ∀ W, Below w.heap.size w W → W.rangeAt bl (of + i * 65) (wrE.enc (l.getD i wrZ)) := fun i hi W hW => by
    have hg : l[i]? = some (l.getD i wrZ) := by rw [List.getD_eq_getElem?_getD, List.getElem?_eq_getElem (by omega)]; rfl
    obtain ⟨b, o, e, hb, hr⟩ := (hl.kept hW).at i _ hg
    rw [hx] at e
    simp only [Option.some.injEq, Addr.mk.injEq, and_true] at e
    obtain ⟨rfl, rfl⟩ := e
    exact hr
  have hm : mustR (f 0) l = .returned (.tuple #[]) := by unfold mustR; rw [hb]; rfl
  have HL : Hid (IsK wrE w (.slice x L c) l) := hl
  have HMu : Hid (∀ W, Below w.heap.size w W → Calls Try.prog 29 #[.slice x L c, .agg (gA f)] W fun r w' => r = .returned (.tuple #[]) ∧ Below W.heap.size W w') := fun W hW => by
    have := must_any l x L c f W hL (by omega) (hl.kept hW) hlB
    rw [hm] at this
    exact this
  clear hm hb hf hlB
  subst hx
  go_enter Try.func17, Try.ntmps17
  go_upto_region 1 with fail
  have hB0 : Below w.heap.size w ((w.alloc (.cells (gA f) 50)).alloc (.cells (secA secZ) 28)) := (below_alloc w _).alloc (by simp) _
  have hC0 : RowC ((w.alloc (.cells (gA f) 50)).alloc (.cells (secA secZ) 28)) w.heap.size (gA f) := (RowC.new w _ _).kept (below_alloc _ _)
  have h40 : ScR ((w.alloc (.cells (gA f) 50)).alloc (.cells (secA secZ) 28)) (w.heap.size + 1) secZ := by
    have := ScR.new (w.alloc (.cells (gA f) 50)) secZ 28
    rw [World.size_alloc] at this; exact this
  obtain ⟨g4, hg4⟩ : ∃ g, w.heap.size + 1 = g := ⟨_, rfl⟩
  obtain ⟨g3, hg3⟩ : ∃ g, w.heap.size = g := ⟨_, rfl⟩
  have hl4 : w.heap.size ≤ g4 := by omega
  rw [hg4] at h40
  rw [hg3] at hC0
  simp only [hg4]
  simp only [hg3]
  clear hg4
  generalize (w.alloc (.cells (gA f) 50)).alloc (.cells (secA secZ) 28) = X at hB0 hC0 h40 ⊢
  have hMu := HMu.out X hB0
  obtain ⟨k1, k2⟩ := hC0
  go_wp2_with fail
  go_at_call 29
  refine hMu.mono ?_
  rintro e Y ⟨rfl, hb1⟩
  clear hMu HMu k1 k2
  have h4 := h40.kept hb1
  have hB := hB0.trans (hb1.mono hB0.size)
  clear hb1 h40 hB0
  have hb3 := run_secB3 Y L hL8
  have hcv : IntKind.u8.wrap (L : Int) = (L : Int) := by rw [IntKind.wrap_u8]; omega
  go_upto_region 3 with fail
  have h5 : ScR (Y.alloc (.cells (secA (mHead L)) 28)) Y.heap.size (mHead L) := ScR.new Y _ 28
  have h4b := h4.kept (below_alloc Y (.cells (secA (mHead L)) 28))
  have hBb := hB.alloc hB.size (.cells (secA (mHead L)) 28)
  obtain ⟨g5, hg5⟩ : ∃ g, Y.heap.size = g := ⟨_, rfl⟩
  have hg5w : w.heap.size ≤ g5 := by rw [← hg5]; exact hB.size
  have hne45 : g4 ≠ g5 := by rw [← hg5]; have := h4.lt; omega
  rw [hg5] at h5
  simp only [hg5]
  generalize Y.alloc (.cells (secA (mHead L)) 28) = Z at h5 h4b hBb ⊢
  clear h4 hB hb3 hcv hg5
  go_wp2_with fail
  go_loopw [17] (fun iv wr => ∃ i : Nat, i ≤ L ∧ iv = .int .i64 i ∧ ScR wr g5 (mTg l i) ∧ ScR wr g4 secZ ∧ Below w.heap.size w wr) (fun iv _ => L - (intOf iv).toNat)
  case atStart => exact ⟨0, by omega, rfl, by rw [mTg, hL]; exact h5, h4b, hBb⟩
  case round =>
    clear h5 h4b hBb
    obtain ⟨i, hi, rfl, h5, h4, hBr⟩ := hrel
    by_cases hlt : i < L
    · obtain ⟨y, hy⟩ : ∃ y, l.getD i wrZ = y := ⟨_, rfl⟩
      have hya : y.1 = atW l i := by rw [← hy]; unfold atW; rfl
      have hr9 := hrng i hlt _ hBr
      rw [hy] at hr9
      obtain ⟨rk, rv⟩ := wr_rg hr9
      clear hy hr9
      obtain ⟨W1, hW1⟩ : ∃ q, wr.alloc (.cells (wrA y) 34) = q := ⟨_, rfl⟩
      have h51 : ScR W1 g5 (mTg l i) := by rw [← hW1]; exact h5.kept (below_alloc _ _)
      have h41 : ScR W1 g4 secZ := by rw [← hW1]; exact h4.kept (below_alloc _ _)
      have hB1 : Below w.heap.size w W1 := by rw [← hW1]; exact hBr.alloc hBr.size _
      have c7 : W1.cell? ⟨wr.heap.size, 0, none⟩ = some (.int .i64 (atW l i)) := by
        rw [← hW1, (RowC.new wr (wrA y) 34).cell 0, wrA_at, hya]
      clear hya
      have hk9 : (i : Int) < (L : Int) := by omega
      have HW1 : Hid _ := hW1
      clear hW1
      go_upto_region 6 with fail
      rw [HW1.out]
      clear rk rv h5 h4 hBr hk9 HW1
      obtain ⟨g7, hg7⟩ : ∃ g, wr.heap.size = g := ⟨_, rfl⟩
      rw [hg7] at c7
      simp only [hg7]
      clear hg7
      obtain ⟨a0, a1⟩ := HAT.out i hlt
      have m1 : IntKind.i64.wrap (2 * (i : Int)) = ((2 * i : Nat) : Int) := by rw [IntKind.wrap_i64]; omega
      have m2 : IntKind.i64.wrap (4 + ((2 * i : Nat) : Int)) = ((4 + 2 * i : Nat) : Int) := by rw [IntKind.wrap_i64]; omega
      have m3 : IntKind.u16.wrap (atW l i) = atW l i := by rw [IntKind.wrap_u16]; omega
      have hput := putU16_any (mTg l i) ((4 + 2 * i : Nat) : Int) (atW l i) W1 (by omega) (by omega) a0 (by omega)
      rw [mTg_put l i (by omega)] at hput
      obtain ⟨j0, hj0⟩ : ∃ j, 2 * i = j := ⟨_, rfl⟩
      obtain ⟨j1, hj1⟩ : ∃ j, 4 + 2 * i = j := ⟨_, rfl⟩
      rw [hj1] at m2 hput
      rw [hj0] at m1 m2
      have H51 : Hid (ScR W1 g5 (mTg l i)) := h51
      obtain ⟨r5, q5⟩ := h51
      clear a0 a1 hj0 hj1
      go_wp2_with fail
      go_at_call 30
      refine hput.mono ?_
      rintro e w3 ⟨rfl, hb3⟩
      clear hput m1 m2 m3 c7 r5 q5
      have h52 := H51.out.kept hb3
      have h42 := h41.kept hb3
      have hB2 := hB1.trans (hb3.mono hB1.size)
      have H53 : Hid (ScR (w3.setRow g5 (secA (mTg l (i + 1)))) g5 (mTg l (i + 1))) := h52.rowsame9 (mTg l (i + 1))
      have H43 : Hid (ScR (w3.setRow g5 (secA (mTg l (i + 1)))) g4 secZ) := h42.rowne9 (secA (mTg l (i + 1))) hne45
      have HB3 : Hid _ := below_row hB2 hg5w (secA (mTg l (i + 1)))
      obtain ⟨r5, q5⟩ := h52
      clear hb3 h41 hB1 h42 hB2
      go_wp2_with fail
      go_roundw
      case rel => exact ⟨i + 1, by omega, by go_num, H53.out, H43.out, HB3.out⟩
      case measure => simp [intOf]; omega
    · obtain rfl : L = i := by omega
      have HMB : Hid (putI (mTg l L) 20 (mSum l).toNat 4 = marB l) := by show _ = _; rw [putI20]; unfold marB; rw [hL]
      have hl := HL.out
      go_upto_region 8 with fail
      obtain ⟨x, hx⟩ : ∃ x, x = (some ⟨bl, of, none⟩ : Option Addr) := ⟨_, rfl⟩
      rw [← hx] at hl ⊢
      clear hx
      refine wp_reliesT [Fx (.agg (secA (mTg l L))), Fx (.slice x L c), Fx (.int .u32 (((mSum l).toNat : Nat) : Int)), Fx (.agg (secA (marB l)))] (by kernel_rfl) (by kernel_rfl) ?_ ?_ ?_
      · repeat' (first | exact all_nil | apply all_cons)
        all_goals intro v y y' hv hb
        all_goals first | exact Fx_mono _ _ _ _ hv hb
      · refine ⟨?_, ?_, ?_, ?_, trivial⟩
        all_goals
          intro ρ x9 hp ρc ρg ρf ho hd
          have o0 : ρ (.tmp 0) = .slice x L c := ho 0 rfl
          have o5 : ρ (.tmp 5) = .pointer (some ⟨g5, 0, none⟩) := ho 5 rfl
          clear ho
          have qs := h5.kept hp
          have rok := qs.1
          have rat := qs.2
          simp only [depsR, depR, slotR, Fx, List.getElem?_cons_succ, List.getElem?_cons_zero, Region.binds, forall_const] at hd
          simp only [guardR]
          go_split_ands
        · go_simp
        · go_simp
        · go_simp
          refine (sumOf_any l x L c x9 hL hL1 hL8 (hl.kept (hBr.trans (hp.mono hBr.size)))).mono ?_
          rintro e w' ⟨rfl, hw⟩
          exact ⟨_, rfl, rfl, hw⟩
        · have hlt9 := (mSum l).isLt
          go_simp
          refine (putU32_any (mTg l L) 20 ((mSum l).toNat : Nat) x9 (by omega) (by omega) (by omega) (by omega)).mono ?_
          rintro e w' ⟨rfl, hw⟩
          exact ⟨_, rfl, by show Value.agg _ = _; rw [Int.toNat_natCast, HMB.out], hw⟩
      · intro vs x2 hp hw
        simp only [owed, Fx] at hw
        obtain ⟨e0, e1, e2, e3, -⟩ := hw
        simp only [List.length_cons, List.length_nil, List.take_succ_cons, List.take_zero, List.drop_succ_cons, List.drop_zero, asg, List.cons_append, List.nil_append, e0, e1, e2, e3]
        clear e0 e1 e2 e3
        have h52 := h5.kept hp
        have h42 := h4.kept hp
        have hB2 := hBr.trans (hp.mono hBr.size)
        have h53 := h52.rowsame9 (marB l)
        have h43 := h42.rowne9 (secA (marB l)) hne45
        have hB3 := below_row hB2 hg5w (secA (marB l))
        obtain ⟨r5, q5⟩ := h52
        clear h5 h4 hBr hp hl
        go_upto_region 9 with fail
        generalize x2.setRow g5 (secA (marB l)) = V at h53 h43 hB3 ⊢
        clear r5 q5 h42 hB2
        obtain ⟨r5, q5⟩ := h53
        have hse := seal_any (marB l) V
        go_wp2_with fail
        go_at_call 33
        refine hse.mono ?_
        rintro e w5 ⟨rfl, hb5⟩
        have h45 := h43.kept hb5
        have hB5 := hB3.trans (hb5.mono hB3.size)
        have HR9 : Hid (ScR (w5.setRow g4 (secA (sealS (marB l)))) g4 (sealS (marB l))) := h45.rowsame9 _
        have HB9 : Hid _ := below_row hB5 hl4 (secA (sealS (marB l)))
        obtain ⟨r4, q4⟩ := h45
        clear hse h43 hB3 hB5 hb5 r5 q5
        go_wp2
        refine bodyPost_sec 4 g4 rfl rfl rfl HR9.out.1 ⟨?_, HB9.out⟩
        rw [HR9.out.2]; rfl
end Go.Proofs.Ytgnjokbabecbdaa
