import Derived.Test.YtadnfiikfhdphaaQDzD
namespace Go.Proofs.Ytadnfiikfhdphaa
open Go.RowKit

/-! Flush, Restart -/
theorem DevP.emptied {w w' : World} {r g n cl : Nat} {vp : Value} {ps : List Ac} {sp sp' : Int} {st st' : DSt} {F R : List Nat} (h : DevP w r (.slice (some ⟨g, 0, none⟩) n cl) vp ps sp st F R) (hK : Keep F w w') (hr : DevRow w' r (.slice (some ⟨g, 0, none⟩) n cl) (.slice none 0 0) sp' st') (hO : OwnK secE w' 0 (.slice (some ⟨g, 0, none⟩) n cl) st'.last) (e2 : st'.pend = []) (el : st'.last.length = st.last.length) (h0 : -9223372036854775808 ≤ sp') (h1 : sp' ≤ 9223372036854775807) (hl : st'.left = if sp' < 0 then -1 else sp') : DevP w' r (.slice (some ⟨g, 0, none⟩) n cl) (.slice none 0 0) [] sp' st' F R :=
  { row := hr, last := hO, pend := OwnK.nil _ _ _, eqp := by rw [e2]; rfl, s0 := h0, s1 := h1, left := hl, rF := h.rF, lF := fun q hq => ⟨(h.lF q hq).1, (h.lF q hq).2.1, by simp [Value.ownBlock]⟩, pF := fun q hq => by simp [Value.ownBlock] at hq, sub := h.sub, lt := fun q hq => Nat.lt_of_lt_of_le (h.lt q hq) hK.size,
    box := (fun y hy => absurd hy List.not_mem_nil), ok := ⟨by rw [e2]; exact (fun x hx => absurd hx List.not_mem_nil), by rw [el]; exact h.ok.lo, by rw [el]; exact h.ok.hi, by rw [hl]; split <;> omega, by rw [hl]; split <;> omega⟩ }
theorem begS_same (st : DSt) : (begS st).last = st.last ∧ (begS st).pend = st.pend ∧ (begS st).rd = st.rd ∧ (begS st).wt = st.wt ∧ (begS st).fl = st.fl := by
  unfold begS
  split
  · exact ⟨rfl, rfl, rfl, rfl, rfl⟩
  · exact mayS_same st
theorem fl_cases (st : DSt) : (flRes st = 21 ∧ flSt st = begS st) ∨ (flRes st = 0 ∧ flSt st = { begS st with last := over st.last st.pend, pend := [], fl := st.fl + 1 }) := by
  unfold flRes flSt begS
  by_cases hd : st.down = true
  · rw [if_pos hd, if_pos hd, if_pos hd]; exact .inl ⟨rfl, rfl⟩
  · rw [if_neg hd, if_neg hd, if_neg hd]
    cases mayB st
    · exact .inl ⟨rfl, rfl⟩
    · exact .inr ⟨rfl, rfl⟩
set_option linter.unusedSimpArgs false in
set_option maxHeartbeats 800000 in
set_option maxRecDepth 100000 in
theorem devFlush (w : World) (d : Value) (st : DSt) (F R : List Nat) (h : DevIs w d st F R) (hp9 : st.pend.length ≤ 1099511627776) (hf : st.fl < 4611686018427387904) :
    Calls Try.prog 20 #[d] w fun e w' => e = .returned (.int .i64 (flRes st)) ∧ ∃ F' R', DevIs w' d (flSt st) F' R' ∧ (∀ q ∈ F', q ∈ F ∨ w.heap.size ≤ q) ∧ (∀ q ∈ R', q ∈ R ∨ w.heap.size ≤ q) ∧ Keep F w w' := by
  obtain ⟨r, vl, vp, ps, sp, rfl, h⟩ := h
  have hb := begin_any w r vl vp sp st h.row h.s0 h.s1 h.left
  obtain ⟨e1, e2, e3, e4, e5⟩ := begS_same st
  rcases fl_cases st with ⟨hR, hS⟩ | ⟨hR, hS⟩
  · rw [hR] at hb ⊢
    rw [hS]
    have FIN : Hid (∀ w' sp', w.grownBy w' (some r) → DevRow w' r vl vp sp' (begS st) → -9223372036854775808 ≤ sp' → sp' ≤ 9223372036854775807 → ((begS st).left = if sp' < 0 then -1 else sp') → DevP w' r vl vp ps sp' (begS st) F R ∧ Keep F w w') := fun w' sp' a1 a2 a3 a4 a5 => ⟨h.turned a1 a2 e1 e2 a3 a4 a5 h.apart, h.keepF a1⟩
    clear h
    go_enter Try.func20, Try.ntmps20
    go_wp2_with fail
    refine hb.mono ?_
    rintro e w1 ⟨rfl, a1, sp', a2, a3, a4, a5⟩
    obtain ⟨f1, f2⟩ := FIN.out w1 sp' a1 a2 a3 a4 a5
    have HF : Hid _ := f1
    have HK : Hid _ := f2
    clear hb f1 f2 a1 a2 a5 FIN
    go_wp2
    go_ret
    exact ⟨rfl, F, R, ⟨r, vl, vp, ps, sp', rfl, HF.out⟩, fun q hq => .inl hq, fun q hq => .inl hq, HK.out⟩
  · rw [hR] at hb ⊢
    rw [hS]
    have hpl := h.plen
    obtain ⟨xl, cl, rfl⟩ := (h.last.isK secE_ok).len
    obtain ⟨xp, cp, rfl⟩ := (h.pend.isK actE_ok).len
    have hlo := h.ok.lo
    obtain ⟨g, rfl, hg⟩ := h.last.form (by omega)
    obtain ⟨n, hn⟩ : ∃ n, st.last.length = n := ⟨_, rfl⟩
    obtain ⟨np, hnp⟩ : ∃ n, ps.length = n := ⟨_, rfl⟩
    have hact : ∀ (i : Nat) (x : Ac), ps[i]? = some x → st.pend[i]? = some x.1 ∧ ∃ a : Nat, x.1.1 = (a : Int) ∧ a < n := fun i x hx => by rw [← hn]; exact h.act hx
    rw [hn, hnp] at h hb
    rw [← hpl, hnp] at hp9
    have hgF : g ∈ F := (h.lF g rfl).1
    have hgr : g ≠ r := (h.lF g rfl).2.1
    have hpg : ∀ q, (Value.slice xp np cp).ownBlock = some q → q ≠ g := fun q hq e => (h.lF g rfl).2.2 (by rw [hq, e])
    have hpr : ∀ q, (Value.slice xp np cp).ownBlock = some q → q ≠ r := fun q hq => (h.pF q hq).2
    have hbg : ∀ y ∈ ps, y.2.1 ≠ g ∧ y.2.2 ≠ g := fun y hy => ⟨fun e => (h.box y hy).2.2.1 (by rw [e]; exact hgF), fun e => (h.box y hy).2.2.2.2 (by rw [e]; exact hgF)⟩
    have hbr := h.apart
    obtain ⟨f1, hf1⟩ : ∃ m, st.fl + 1 = m := ⟨_, rfl⟩
    rw [hf1]
    go_enter Try.func20, Try.ntmps20
    go_wp2_with fail
    refine hb.mono ?_
    rintro e w1 ⟨rfl, a1, sp', a2, a3, a4, a5⟩
    obtain ⟨-, -, -, -, -, -, c6⟩ := a2.cells
    have z6 := a2.frozen 6
    rw [e5] at c6
    have w6 : IntKind.i64.wrap ((st.fl : Int) + 1) = (f1 : Int) := by rw [IntKind.wrap_i64]; omega
    have hr2 : DevRow (w1.setCell ⟨r, 6, none⟩ (.int .i64 (f1 : Int))) r (.slice (some ⟨g, 0, none⟩) n cl) (.slice xp np cp) sp' { begS st with fl := f1 } := a2.set 6 _ rfl
    have hg2 : w.grownBy (w1.setCell ⟨r, 6, none⟩ (.int .i64 (f1 : Int))) (some r) := grown_two a1 (grown_cell _ _ _ _)
    have hK2 : Keep [r] w (w1.setCell ⟨r, 6, none⟩ (.int .i64 (f1 : Int))) := Keep.of_grown hg2 (fun q hq => by cases hq; simp)
    have hL := h.last.keeps hK2 (fun q hq => by cases hq; simpa using hgr)
    have hP := h.pend.keeps hK2 (fun q hq => by simpa using hpr q hq)
    have hBx : ∀ y ∈ ps, Boxed (w1.setCell ⟨r, 6, none⟩ (.int .i64 (f1 : Int))) y := fun y hy => (h.box y hy).1.keeps hK2 (by simpa using (hbr y hy).1) (by simpa using (hbr y hy).2)
    clear hb a1 a2
    generalize (st.fl : Int) = fl0 at c6 w6
    go_upto_region 7 with fail
    generalize w1.setCell ⟨r, 6, none⟩ (.int .i64 (f1 : Int)) = w2 at hr2 hg2 hL hP hBx ⊢
    obtain ⟨c0, c1, -⟩ := hr2.cells
    have hr2l := hr2.lt
    clear hK2 c6 z6 w6 hpr hbr
    go_wp2_with fail
    go_loopw [25] (fun v wr => ∃ i : Nat, i ≤ np ∧ v = .int .i64 i ∧ OwnK secE wr 0 (.slice (some ⟨g, 0, none⟩) n cl) (over st.last (st.pend.take i)) ∧ w2.grownBy wr (some g)) (fun v _ => np - (intOf v).toNat)
    case atStart => exact ⟨0, by omega, rfl, hL, grown_drew w2 0 _⟩
    case round =>
      clear hL
      obtain ⟨i, hi, rfl, hO, hG⟩ := hrel
      have hK : Keep [g] w2 wr := Keep.of_grown hG (fun q hq => by cases hq; simp)
      have hrr := hr2.kept (hG.block r hr2l (fun e => by cases e; exact hgr rfl))
      by_cases hlt : i < np
      · obtain ⟨x, hx⟩ : ∃ x, ps[i]? = some x := ⟨ps[i]'(by omega), List.getElem?_eq_getElem (by omega)⟩
        obtain ⟨hxp, a, ha, hal⟩ := hact i x hx
        have hPw := hP.keeps hK (fun q hq => by simpa using hpg q hq)
        obtain ⟨gp, rfl, hgp⟩ := hPw.form (by omega)
        obtain ⟨dok, drg⟩ := actCells hPw i x hx
        have hxm := List.mem_of_getElem? hx
        have hbx := (hBx x hxm).keeps hK (by simpa using (hbg x hxm).1) (by simpa using (hbg x hxm).2)
        have HX : Hid (over st.last (st.pend.take (i + 1)) = (over st.last (st.pend.take i)).set a x.1.2) := over_step hxp ha
        have i0 : (0 : Int) ≤ (i : Int) := by omega
        have i1 : (i : Int) < (np : Int) := by omega
        obtain ⟨k1, k2⟩ := hbx
        rw [ha] at k1
        obtain ⟨xx, ga, gs⟩ := x
        simp only at k1 k2 HX
        obtain ⟨q1, -, -⟩ := actRow wr (xx, ga, gs)
        simp only at q1
        have b2 := below_alloc wr (.cells (actA (xx, ga, gs)) 80)
        have hg5 : wr.heap.size < (wr.alloc (.cells (actA (xx, ga, gs)) 80)).heap.size := by simp
        have k0 := cell_later b2 hrr.cells.1
        have k1' := cell_later b2 k1
        have k2' := k2.kept b2
        have hO' := hO.keep b2
        have hG' := grown_two hG (Below.grown b2 (some g))
        have hrl5 : r < wr.heap.size := hrr.lt
        clear hx hxp ha hK hPw hP hpg hact hbg hBx hO hG k1 k2 b2 hxm hrr c0 c1
        go_upto_region 10 with fail
        generalize wr.alloc (.cells (actA (xx, ga, gs)) 80) = X at q1 hg5 k0 k1' k2' hO' hG' ⊢
        obtain ⟨g5, hg5'⟩ : ∃ q, wr.heap.size = q := ⟨_, rfl⟩
        simp only [hg5']
        rw [hg5'] at q1 hg5 hrl5
        refine wp_reliesT [Fx (.pointer (some ⟨g5, 65, none⟩)), Fx (cloV ga gs), Fx (.pointer (some ⟨r, 0, none⟩)), Fx (.pointer (some ⟨r, 0, none⟩)), Fx (.pointer (some ⟨r, 0, none⟩)), Fx (.slice (some ⟨g, 0, none⟩) n cl)] (by kernel_rfl) (by kernel_rfl) ?_ ?_ ?_
        · repeat' (first | exact all_nil | apply all_cons)
          all_goals intro v y y' hv hb
          all_goals first | exact Fx_mono _ _ _ _ hv hb
        · refine ⟨?_, ?_, ?_, ?_, ?_, ?_, trivial⟩
          all_goals
            intro ρ x hp ρc ρg ρf ho hd
            have o5 : ρ (.tmp 5) = .pointer (some ⟨g5, 0, none⟩) := ho 5 rfl
            have o0 : ρ (.tmp 0) = .pointer (some ⟨r, 0, none⟩) := ho 0 rfl
            clear ho
            have q0 := cell_later hp k0
            have qc := cell_later hp q1
            simp only [depsR, depR, slotR, Fx, List.getElem?_cons_succ, List.getElem?_cons_zero, Region.binds, forall_const] at hd
            simp only [guardR]
            go_split_ands
          · go_simp
          · go_simp
          · go_simp
          · go_simp
          · go_simp
          · go_simp
        · intro vs x_1 hp hw
          simp only [owed, Fx] at hw
          obtain ⟨e0, e1, e2, e3, e4, e5, -⟩ := hw
          simp only [List.length_cons, List.length_nil, List.take_succ_cons, List.take_zero, List.drop_succ_cons, List.drop_zero, asg, List.cons_append, List.nil_append, e0, e1, e2, e3, e4, e5]
          clear e0 e1 e2 e3 e4 e5
          have hclo := clo_any x_1 0 g n cl a ga gs xx.2 (over st.last (st.pend.take i)) (hO'.keep hp) (by omega) (cell_later hp k1') (k2'.kept hp)
          have hO2 := secPut (hO'.keep hp) a xx.2 (by omega)
          rw [← HX.out] at hO2
          have HO : Hid _ := hO2
          have HG : Hid _ := grown_two (grown_two hG' (Below.grown hp (some g))) (grown_setC x_1 g (a * 64) (secA xx.2).toList)
          clear hO' hG' hO2 hp k0 k1' k2' q1 dok drg HX
          unfold cloV
          go_wp2_with fail
          refine hclo.mono ?_
          rintro e X' ⟨rfl, hX'⟩
          rw [← hX'] at HO HG
          clear hclo hX'
          go_wp2
          go_roundw
          case rel => exact ⟨i + 1, by omega, by go_num, HO.out, HG.out⟩
          case measure => simp [intOf]; omega
      · obtain rfl : i = np := by omega
        rw [List.take_of_length_le (by omega)] at hO
        have z1 := hrr.frozen 1
        have hr3 : DevRow (wr.setCell ⟨r, 1, none⟩ (.slice none 0 0)) r (.slice (some ⟨g, 0, none⟩) n cl) (.slice none 0 0) sp' { begS st with last := over st.last st.pend, pend := [], fl := f1 } := hrr.set 1 _ rfl
        have hgc := grown_cell wr r 1 (.slice none 0 0)
        have hO3 : OwnK secE (wr.setCell ⟨r, 1, none⟩ (.slice none 0 0)) 0 (.slice (some ⟨g, 0, none⟩) n cl) (over st.last st.pend) := hO.keeps (F := [r]) (Keep.of_grown hgc (fun q hq => by cases hq; simp)) (fun q hq => by cases hq; simpa using hgr)
        have hKF : Keep F w (wr.setCell ⟨r, 1, none⟩ (.slice none 0 0)) := ((h.keepF hg2).trans (Keep.of_grown hG (fun q hq => by cases hq; exact hgF))).trans (Keep.of_grown hgc (fun q hq => by cases hq; exact h.rF))
        have HP : Hid _ := h.emptied hKF hr3 hO3 rfl (over_len _ _) a3 a4 a5
        have HK : Hid _ := hKF
        obtain ⟨-, y1, -⟩ := hrr.cells
        clear hr3 hgc hO3 hKF hO hG hrr hP hBx hg2 hr2 h c0 c1 hact hbg hpg a5 e1 e2 e3 e4 e5
        go_wp2
        go_ret
        exact ⟨rfl, F, R, ⟨r, _, _, [], sp', rfl, HP.out⟩, fun q hq => .inl hq, fun q hq => .inl hq, HK.out⟩
set_option linter.unusedSimpArgs false in
set_option maxHeartbeats 1600000 in
set_option maxRecDepth 100000 in
theorem devRestart (w : World) (d : Value) (st : DSt) (F R : List Nat) (xb : Option Addr) (nb cb : Nat) (bs : List Bool) (h : DevIs w d st F R) (hp9 : st.pend.length ≤ 1099511627776) (hbl : bs.length = nb) (hbs : IsG w (.slice xb nb cb) (bs.map Value.bool)) (hbF : bs ≠ [] → ∀ x, xb = some x → x.block ∉ F) :
    Calls Try.prog 22 #[d, .slice xb nb cb] w fun e w' => e = .returned (.tuple #[]) ∧ ∃ F' R', DevIs w' d (reSt st bs) F' R' ∧ (∀ q ∈ F', q ∈ F ∨ w.heap.size ≤ q) ∧ (∀ q ∈ R', q ∈ R ∨ w.heap.size ≤ q) ∧ Keep F w w' := by
  obtain ⟨r, vl, vp, ps, sp, rfl, h⟩ := h
  have hpl := h.plen
  obtain ⟨xl, cl, rfl⟩ := (h.last.isK secE_ok).len
  obtain ⟨xp, cp, rfl⟩ := (h.pend.isK actE_ok).len
  have hlo := h.ok.lo
  obtain ⟨g, rfl, hg⟩ := h.last.form (by omega)
  obtain ⟨n, hn⟩ : ∃ n, st.last.length = n := ⟨_, rfl⟩
  obtain ⟨np, hnp⟩ : ∃ n, ps.length = n := ⟨_, rfl⟩
  have hact : ∀ (i : Nat) (x : Ac), ps[i]? = some x → st.pend[i]? = some x.1 ∧ ∃ a : Nat, x.1.1 = (a : Int) ∧ a < n := fun i x hx => by rw [← hn]; exact h.act hx
  rw [hn, hnp] at h
  have hplen : st.pend.length = np := by omega
  rw [hplen] at hp9
  have hgF : g ∈ F := (h.lF g rfl).1
  have hgr : g ≠ r := (h.lF g rfl).2.1
  have hpg : ∀ q, (Value.slice xp np cp).ownBlock = some q → q ≠ g := fun q hq e => (h.lF g rfl).2.2 (by rw [hq, e])
  have hbg : ∀ y ∈ ps, y.2.1 ≠ g ∧ y.2.2 ≠ g := fun y hy => ⟨fun e => (h.box y hy).2.2.1 (by rw [e]; exact hgF), fun e => (h.box y hy).2.2.2.2 (by rw [e]; exact hgF)⟩
  obtain ⟨c0, c1, -⟩ := h.row.cells
  go_enter Try.func22, Try.ntmps22
  go_wp2_with fail
  go_loopw [13] (fun v wr => ∃ i : Nat, i ≤ np ∧ v = .int .i64 i ∧ OwnK secE wr 0 (.slice (some ⟨g, 0, none⟩) n cl) (over st.last (pickL (st.pend.take i) bs)) ∧ w.grownBy wr (some g)) (fun v _ => np - (intOf v).toNat)
  case atStart => exact ⟨0, by omega, rfl, by simpa [pickL, over] using h.last, grown_drew w 0 _⟩
  case round =>
    obtain ⟨i, hi, rfl, hO, hG⟩ := hrel
    have hK : Keep [g] w wr := Keep.of_grown hG (fun q hq => by cases hq; simp)
    have hrr := h.row.kept (hG.block r h.row.lt (fun e => by cases e; exact hgr rfl))
    by_cases hlt : i < np
    · obtain ⟨x, hx⟩ : ∃ x, ps[i]? = some x := ⟨ps[i]'(by omega), List.getElem?_eq_getElem (by omega)⟩
      obtain ⟨hxp, a, ha, hal⟩ := hact i x hx
      have hPw := h.pend.keeps hK (fun q hq => by simpa using hpg q hq)
      obtain ⟨gp, rfl, hgp⟩ := hPw.form (by omega)
      obtain ⟨dok, drg⟩ := actCells hPw i x hx
      have hxm := List.mem_of_getElem? hx
      have hbx := (h.box x hxm).1.keeps hK (by simpa using (hbg x hxm).1) (by simpa using (hbg x hxm).2)
      have i0 : (0 : Int) ≤ (i : Int) := by omega
      have i1 : (i : Int) < (np : Int) := by omega
      obtain ⟨xx, ga, gs⟩ := x
      simp only at hxp ha
      obtain ⟨q1, -, -⟩ := actRow wr (xx, ga, gs)
      simp only at q1
      have b2 := below_alloc wr (.cells (actA (xx, ga, gs)) 80)
      by_cases hc : i < nb
      · obtain ⟨b, hb⟩ : ∃ b, bs[i]? = some b := ⟨bs[i]'(by omega), List.getElem?_eq_getElem (by omega)⟩
        obtain ⟨bb, bo, hxb, hbb, hbc⟩ := hbs.spot i (by rw [List.length_map]; omega)
        have hbk := hbc i (.bool b) (by rw [List.getElem?_map, hb]; rfl)
        have hbg9 : bb ≠ g := fun e => hbF (List.ne_nil_of_length_pos (by omega)) _ hxb (by rw [e]; exact hgF)
        have hbk2 : wr.cell? ⟨bb, bo + i, none⟩ = some (.bool b) := by
          rw [← hbk]
          exact cell_block (hG.block bb hbb (fun e => by cases e; exact hbg9 rfl))
        have hbk3 := cell_later b2 hbk2
        subst hxb
        have i2 : (i : Int) < (nb : Int) := by omega
        have hps := pick_step st.pend bs i xx b hxp hb
        cases b with
        | false =>
          simp only [Bool.false_eq_true, if_false, List.append_nil] at hps
          rw [← hps] at hO
          have HO : Hid _ := hO.keep b2
          have HG : Hid _ := grown_two hG (Below.grown b2 (some g))
          clear hO hG hx hxp ha hb hbk hbc hps hrr hK hpg h hbs hbF hPw hbx hact hbg b2 q1 hxm c0 c1
          go_upto_region 4 with fail
          generalize wr.alloc (.cells (actA (xx, ga, gs)) 80) = X at hbk3 HO HG ⊢
          clear dok drg hbk2
          go_wp2
          go_roundw
          case rel => exact ⟨i + 1, by omega, by go_num, HO.out, HG.out⟩
          case measure => simp [intOf]; omega
        | true =>
          have HX : Hid (over st.last (pickL (st.pend.take (i + 1)) bs) = (over st.last (pickL (st.pend.take i) bs)).set a xx.2) := by
            show _ = _
            rw [hps]
            show over _ (_ ++ [xx]) = _
            rw [over_snoc, ha]; rfl
          obtain ⟨k1, k2⟩ := hbx
          rw [ha] at k1
          simp only at k1 k2
          have hg5 : wr.heap.size < (wr.alloc (.cells (actA (xx, ga, gs)) 80)).heap.size := by simp
          have k0 := cell_later b2 hrr.cells.1
          have k1' := cell_later b2 k1
          have k2' := k2.kept b2
          have hO' := hO.keep b2
          have hG' := grown_two hG (Below.grown b2 (some g))
          have hrl5 : r < wr.heap.size := hrr.lt
          clear hO hG hx hxp ha hb hbk hbc hps hrr hK hpg h hbs hbF hPw hact hbg b2 hxm c0 c1 k1 k2
          go_upto_region 4 with fail
          generalize wr.alloc (.cells (actA (xx, ga, gs)) 80) = X at q1 hbk3 hg5 k0 k1' k2' hO' hG' ⊢
          obtain ⟨g5, hg5'⟩ : ∃ q, wr.heap.size = q := ⟨_, rfl⟩
          simp only [hg5']
          rw [hg5'] at q1 hg5 hrl5
          clear dok drg hbk2
          go_upto_region 5 with fail
          clear hbk3
          refine wp_reliesT [Fx (.pointer (some ⟨g5, 65, none⟩)), Fx (cloV ga gs), Fx (.pointer (some ⟨r, 0, none⟩)), Fx (.pointer (some ⟨r, 0, none⟩)), Fx (.pointer (some ⟨r, 0, none⟩)), Fx (.slice (some ⟨g, 0, none⟩) n cl)] (by kernel_rfl) (by kernel_rfl) ?_ ?_ ?_
          · repeat' (first | exact all_nil | apply all_cons)
            all_goals intro v y y' hv hb
            all_goals first | exact Fx_mono _ _ _ _ hv hb
          · refine ⟨?_, ?_, ?_, ?_, ?_, ?_, trivial⟩
            all_goals
              intro ρ x hp ρc ρg ρf ho hd
              have o5 : ρ (.tmp 5) = .pointer (some ⟨g5, 0, none⟩) := ho 5 rfl
              have o0 : ρ (.tmp 0) = .pointer (some ⟨r, 0, none⟩) := ho 0 rfl
              clear ho
              have q0 := cell_later hp k0
              have qc := cell_later hp q1
              simp only [depsR, depR, slotR, Fx, List.getElem?_cons_succ, List.getElem?_cons_zero, Region.binds, forall_const] at hd
              simp only [guardR]
              go_split_ands
            · go_simp
            · go_simp
            · go_simp
            · go_simp
            · go_simp
            · go_simp
          · intro vs x_1 hp hw
            simp only [owed, Fx] at hw
            obtain ⟨e0, e1, e2, e3, e4, e5, -⟩ := hw
            simp only [List.length_cons, List.length_nil, List.take_succ_cons, List.take_zero, List.drop_succ_cons, List.drop_zero, asg, List.cons_append, List.nil_append, e0, e1, e2, e3, e4, e5]
            clear e0 e1 e2 e3 e4 e5
            have hclo := clo_any x_1 0 g n cl a ga gs xx.2 (over st.last (pickL (st.pend.take i) bs)) (hO'.keep hp) (by omega) (cell_later hp k1') (k2'.kept hp)
            have hO2 := secPut (hO'.keep hp) a xx.2 (by omega)
            rw [← HX.out] at hO2
            have HO : Hid _ := hO2
            have HG : Hid _ := grown_two (grown_two hG' (Below.grown hp (some g))) (grown_setC x_1 g (a * 64) (secA xx.2).toList)
            clear hO' hG' hO2 hp k0 k1' k2' q1 HX
            unfold cloV
            go_wp2_with fail
            refine hclo.mono ?_
            rintro e X' ⟨rfl, hX'⟩
            rw [← hX'] at HO HG
            clear hclo hX'
            go_wp2
            go_roundw
            case rel => exact ⟨i + 1, by omega, by go_num, HO.out, HG.out⟩
            case measure => simp [intOf]; omega
      · have i2 : ¬ (i : Int) < (nb : Int) := by omega
        have hpe : pickL (st.pend.take (i + 1)) bs = pickL (st.pend.take i) bs := by rw [pick_end _ _ _ (.inr (by omega)), pick_end _ _ _ (.inr (by omega))]
        rw [← hpe] at hO
        have HO : Hid _ := hO.keep b2
        have HG : Hid _ := grown_two hG (Below.grown b2 (some g))
        clear hO hG hx hxp ha hpe hrr hK hpg h hbs hbF hPw hbx hact hbg b2 q1 hxm c0 c1
        go_upto_region 4 with fail
        generalize wr.alloc (.cells (actA (xx, ga, gs)) 80) = X at HO HG ⊢
        clear dok drg
        go_wp2
        go_roundw
        case rel => exact ⟨i + 1, by omega, by go_num, HO.out, HG.out⟩
        case measure => simp [intOf]; omega
    · obtain rfl : i = np := by omega
      rw [pick_end _ _ _ (.inl (by omega))] at hO
      have r1 : DevRow (wr.setCell ⟨r, 1, none⟩ (.slice none 0 0)) r (.slice (some ⟨g, 0, none⟩) n cl) (.slice none 0 0) sp st := hrr.set 1 _ rfl
      have r2 : DevRow ((wr.setCell ⟨r, 1, none⟩ (.slice none 0 0)).setCell ⟨r, 2, none⟩ (.bool false)) r (.slice (some ⟨g, 0, none⟩) n cl) (.slice none 0 0) sp { st with down := false } := r1.set 2 _ rfl
      have r3 : DevRow (((wr.setCell ⟨r, 1, none⟩ (.slice none 0 0)).setCell ⟨r, 2, none⟩ (.bool false)).setCell ⟨r, 3, none⟩ (.int .i64 (-1))) r (.slice (some ⟨g, 0, none⟩) n cl) (.slice none 0 0) (-1) (reSt st bs) := r2.set 3 _ rfl
      have z1 := hrr.frozen 1
      have z2 := r1.frozen 2
      have z3 := r2.frozen 3
      obtain ⟨-, y1, -⟩ := hrr.cells
      obtain ⟨-, -, y2, -⟩ := r1.cells
      obtain ⟨-, -, -, y3, -⟩ := r2.cells
      have hgc : wr.grownBy (((wr.setCell ⟨r, 1, none⟩ (.slice none 0 0)).setCell ⟨r, 2, none⟩ (.bool false)).setCell ⟨r, 3, none⟩ (.int .i64 (-1))) (some r) := grown_two (grown_two (grown_cell _ _ _ _) (grown_cell _ _ _ _)) (grown_cell _ _ _ _)
      have hO3 := hO.keeps (F := [r]) (Keep.of_grown hgc (fun q hq => by cases hq; simp)) (fun q hq => by cases hq; simpa using hgr)
      have hKF : Keep F w _ := (Keep.of_grown hG (fun q hq => by cases hq; exact hgF)).trans (Keep.of_grown hgc (fun q hq => by cases hq; exact h.rF))
      have HP : Hid _ := h.emptied hKF r3 hO3 rfl (over_len _ _) (by omega) (by omega) rfl
      have HK : Hid _ := hKF
      clear r1 r2 r3 hgc hO3 hKF hO hG hrr h c0 c1 hact hbg hpg hbs
      go_wp2
      go_end0
      exact ⟨rfl, F, R, ⟨r, _, _, [], -1, rfl, HP.out⟩, fun q hq => .inl hq, fun q hq => .inl hq, HK.out⟩
end Go.Proofs.Ytadnfiikfhdphaa
