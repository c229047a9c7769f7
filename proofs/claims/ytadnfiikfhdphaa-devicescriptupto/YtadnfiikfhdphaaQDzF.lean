import Derived.Test.YtadnfiikfhdphaaQDzE
namespace Go.Proofs.Ytadnfiikfhdphaa
open Go.RowKit

/-! current, Read -/
theorem secCells {w : World} {B g n c : Nat} {ms : List Sc} (h : OwnK secE w B (.slice (some ⟨g, 0, none⟩) n c) ms) (i : Nat) (s : Sc) (hi : ms[i]? = some s) : rgOk w g (i * 64) 64 = true ∧ rg w g (i * 64) 64 = secA s := by
  have hr := h.range secE_ok i s hi
  rw [secE_k, secE_enc] at hr
  have h2 := rg_of (k := 64) hr (by simp)
  rw [toA] at h2
  exact h2
theorem setRow_bel {B n : Nat} {w0 w : World} (hb : Below B w0 w) (h : B ≤ n) (c : Array Value) : Below B w0 (w.setRow n c) := below_row hb h c
set_option linter.unusedSimpArgs false in
set_option maxHeartbeats 800000 in
theorem current_any (w : World) (r : Nat) (vl vp : Value) (ps : List Ac) (sp : Int) (st : DSt) (F R : List Nat) (m : Nat) (h : DevP w r vl vp ps sp st F R) (hm : m < st.last.length) (hp9 : st.pend.length ≤ 1099511627776) :
    Calls Try.prog 38 #[.pointer (some ⟨r, 0, none⟩), .int .i64 (m : Int)] w fun e w' => e = .returned (.agg (secA (curS st m st.pend.length))) ∧ Below w.heap.size w w' := by
  have hpl := h.plen
  obtain ⟨xl, cl, rfl⟩ := (h.last.isK secE_ok).len
  obtain ⟨xp, cp, rfl⟩ := (h.pend.isK actE_ok).len
  have hlo := h.ok.lo
  obtain ⟨g, rfl, hg⟩ := h.last.form (by omega)
  obtain ⟨s0, hs0⟩ : ∃ s, st.last[m]? = some s := ⟨st.last[m], List.getElem?_eq_getElem hm⟩
  obtain ⟨l0, l1⟩ := secCells h.last m s0 hs0
  obtain ⟨n, hn⟩ : ∃ n, st.last.length = n := ⟨_, rfl⟩
  obtain ⟨np, hnp⟩ : ∃ n, ps.length = n := ⟨_, rfl⟩
  have hact : ∀ (i : Nat) (x : Ac), ps[i]? = some x → st.pend[i]? = some x.1 ∧ ∃ a : Nat, x.1.1 = (a : Int) ∧ a < n := fun i x hx => by rw [← hn]; exact h.act hx
  have h1 := h.row
  have hP := h.pend
  have hmn := hm
  rw [hn, hnp] at h1
  rw [hnp] at hP
  rw [hn] at hm
  rw [← hpl, hnp] at hp9 ⊢
  have hcz := curS_zero st m s0 hs0
  clear h
  go_enter Try.func38, Try.ntmps38
  have b0 := below_alloc w (.cells (secA secZ) 27)
  have hZ := ScR.new w secZ 27
  go_upto_region 1 with fail
  obtain ⟨z, hz⟩ : ∃ z, w.heap.size = z := ⟨_, rfl⟩
  simp only [hz]
  rw [hz] at hZ
  generalize w.alloc (.cells (secA secZ) 27) = W at b0 hZ ⊢
  have hrl := h1.lt
  have hrW := h1.kept (b0.block r hrl)
  obtain ⟨c0, c1, -⟩ := hrW.cells
  have wn : IntKind.i64.wrap ((np : Int) - 1) = (np : Int) - 1 := by rw [IntKind.wrap_i64]; omega
  have hPW := hP.keep b0
  have hgW : g < W.heap.size := Nat.lt_of_lt_of_le hg b0.size
  have lW := rg_later b0 hg (m * 64) 64
  have l0' := lW.1.trans l0
  have l1' := lW.2.trans l1
  have hrWl := hrW.lt
  clear lW l0 l1 hP h1
  go_wp2_with fail
  clear c0 c1 wn
  go_loopw [5] (fun v wr => ∃ k : Nat, k ≤ np ∧ v = .int .i64 ((k : Int) - 1) ∧ curS st m np = curS st m k ∧ Below W.heap.size W wr) (fun v _ => (intOf v + 1).toNat)
  case atStart => exact ⟨np, Nat.le_refl _, rfl, rfl, Below.refl _ _⟩
  case round =>
    obtain ⟨k, hk, rfl, hcur, hB⟩ := hrel
    have hrr := hrW.kept (hB.block r hrWl)
    obtain ⟨k0, k1, -⟩ := hrr.cells
    have hZr := hZ.kept hB
    have hzs : w.heap.size ≤ z := by omega
    cases k with
    | zero =>
      have e1 : ((0 : Nat) : Int) - 1 = -1 := by omega
      simp only [e1]
      have lr := rg_later hB hgW (m * 64) 64
      have m0 := lr.1.trans l0'
      have m1 := lr.2.trans l1'
      have i0 : (0 : Int) ≤ (m : Int) := by omega
      have i1 : (m : Int) < (n : Int) := by omega
      obtain ⟨rok, rat⟩ := hZr
      have hE : ScR (wr.setRow z (secA s0)) z s0 := ⟨rowOk_setRow_same _ _ _ rok (secA_size _), rowAt_setRow_same _ _ _ rok⟩
      have HE : Hid _ := hE
      have HB : Hid (Below w.heap.size w (wr.setRow z (secA s0))) := setRow_bel (b0.trans (hB.mono b0.size)) hzs _
      have HC : Hid (curS st m np = s0) := by show _ = _; rw [hcur, hcz]
      clear lr l0' l1' hrr hE hcur hcz hB b0 hZ hPW hact hrW k1
      go_wp2
      exact bodyPost_sec 4 z rfl rfl rfl HE.out.1 (by rw [HE.out.2]; exact ⟨by rw [HC.out], HB.out⟩)
    | succ k =>
      have e1 : ((k + 1 : Nat) : Int) - 1 = (k : Int) := by omega
      simp only [e1]
      obtain ⟨x, hx⟩ : ∃ x, ps[k]? = some x := ⟨ps[k]'(by omega), List.getElem?_eq_getElem (by omega)⟩
      obtain ⟨hxp, b, hb, hbl⟩ := hact k x hx
      have hPw := hPW.keep hB
      obtain ⟨gp, rfl, hgp⟩ := hPw.form (by omega)
      obtain ⟨dok, drg⟩ := actCells2 hPw k x hx
      have i0 : (0 : Int) ≤ (k : Int) := by omega
      have i1 : (k : Int) < (np : Int) := by omega
      obtain ⟨xx, ga, gs⟩ := x
      simp only at hxp hb drg
      obtain ⟨q0, q1, q2⟩ := wrRow wr xx
      have b2 := below_alloc wr (.cells (wrA xx) 77)
      rw [hb] at q0
      have hZ2 := hZr.kept b2
      by_cases he : b = m
      · have hbm : (b : Int) = (m : Int) := by omega
        have hc := curS_new st m k xx hxp (by rw [hb, he]) hmn
        obtain ⟨rok, rat⟩ := hZ2
        have hE : ScR ((wr.alloc (.cells (wrA xx) 77)).setRow z (secA xx.2)) z xx.2 := ⟨rowOk_setRow_same _ _ _ rok (secA_size _), rowAt_setRow_same _ _ _ rok⟩
        have HE : Hid _ := hE
        have hB2 : Below w.heap.size w (wr.alloc (.cells (wrA xx) 77)) := (b0.trans (hB.mono b0.size)).trans (b2.mono (by have := b0.size; have := hB.size; omega))
        have HB : Hid _ := setRow_bel hB2 hzs (secA xx.2)
        have HC : Hid (curS st m np = xx.2) := by show _ = _; rw [hcur, hc]
        clear hE hB2 hcur hc hcz hB b0 hZ hPW hPw hact hrr hrW hZr l0' l1' hxp hx hb k0
        go_upto_region 5 with fail
        generalize wr.alloc (.cells (wrA xx) 77) = X at q0 q1 q2 rok rat HE HB b2 ⊢
        obtain ⟨g6, hg6⟩ : ∃ q, wr.heap.size = q := ⟨_, rfl⟩
        simp only [hg6]
        rw [hg6] at q0 q1 q2
        obtain ⟨s1, hs1⟩ : ∃ s, xx.2 = s := ⟨_, rfl⟩
        rw [hs1] at q2 HE HB HC
        clear dok drg k1
        go_wp2
        exact bodyPost_sec 4 z rfl rfl rfl HE.out.1 (by rw [HE.out.2]; exact ⟨by rw [HC.out], HB.out⟩)
      · have hbm : ¬ (b : Int) = (m : Int) := by omega
        have hc := curS_same st m k b xx hxp hb he
        have HC : Hid (curS st m np = curS st m k) := by show _ = _; rw [hcur, hc]
        have HB : Hid (Below W.heap.size W (wr.alloc (.cells (wrA xx) 77))) := hB.trans (b2.mono hB.size)
        have wk : IntKind.i64.wrap ((k : Int) - 1) = (k : Int) - 1 := by rw [IntKind.wrap_i64]; omega
        clear hcur hc hcz hB b0 hZ hPW hPw hact hrr hrW hZr hZ2 l0' l1' hxp hx hb k0 q1 q2
        go_upto_region 5 with fail
        generalize wr.alloc (.cells (wrA xx) 77) = X at q0 HB b2 ⊢
        clear dok drg k1
        go_wp2
        go_roundw
        case rel => exact ⟨k, by omega, rfl, HC.out, HB.out⟩
        case measure => simp [intOf]
set_option linter.unusedSimpArgs false in
set_option maxHeartbeats 800000 in
theorem devRead (w : World) (d : Value) (st : DSt) (F R : List Nat) (a : Int) (h : DevIs w d st F R) (hp9 : st.pend.length ≤ 1099511627776) (hrd : st.rd < 4611686018427387904) :
    Calls Try.prog 19 #[d, .int .i64 a] w fun e w' => e = .returned (.tuple #[.agg (secA (rdSec st a)), .int .i64 (rdRes st a)]) ∧ ∃ F' R', DevIs w' d (rdSt st a) F' R' ∧ (∀ q ∈ F', q ∈ F ∨ w.heap.size ≤ q) ∧ (∀ q ∈ R', q ∈ R ∨ w.heap.size ≤ q) ∧ Keep F w w' := by
  obtain ⟨r, vl, vp, ps, sp, rfl, h⟩ := h
  obtain ⟨xl, cl, rfl⟩ := (h.last.isK secE_ok).len
  have b0 := below_alloc w (.cells (secA secZ) 27)
  have hZ := ScR.new w secZ 27
  have h0 := h.keeps (G := []) (Keep.of_below b0) (fun _ _ => by simp)
  have hRe := reach_any (w.alloc (.cells (secA secZ) 27)) r _ vp sp st xl cl a h0.row rfl
  have hri : reachI st a = rdRes st a := rfl
  rw [hri] at hRe
  have hrl := h.lt
  by_cases hr0 : rdRes st a = 0
  · have hQ : rdSec st a = ((over st.last st.pend)[a.toNat]?).getD secZ := by unfold rdSec; rw [if_pos hr0]
    have hS : rdSt st a = { st with rd := st.rd + 1 } := by unfold rdSt; rw [if_pos hr0]
    have ht : thereB st a = true := by
      unfold rdRes at hr0
      split at hr0
      · cases hr0
      · split at hr0
        · assumption
        · cases hr0
    have ht2 : 0 ≤ a ∧ a < (st.last.length : Int) := by unfold thereB at ht; simpa using ht
    obtain ⟨m, rfl⟩ : ∃ m : Nat, a = (m : Int) := ⟨a.toNat, by omega⟩
    have hml : m < st.last.length := by omega
    obtain ⟨r1, hr1⟩ : ∃ k, st.rd + 1 = k := ⟨_, rfl⟩
    have hQ2 : rdSec st (m : Int) = curS st m st.pend.length := by rw [hQ]; unfold curS; rw [List.take_of_length_le (Nat.le_refl _)]; rfl
    obtain ⟨s1, hs1⟩ : ∃ s, curS st m st.pend.length = s := ⟨_, rfl⟩
    rw [hQ2, hS, hr1, hs1]
    rw [hr0] at hRe ⊢
    go_enter Try.func19, Try.ntmps19
    go_wp2_with fail
    obtain ⟨z, hz⟩ : ∃ z, w.heap.size = z := ⟨_, rfl⟩
    simp only [hz]
    rw [hz] at hZ
    generalize w.alloc (.cells (secA secZ) 27) = W at b0 hZ h0 hRe ⊢
    refine hRe.mono ?_
    rintro e w1 ⟨rfl, hw1⟩
    rw [hw1]
    clear hRe hw1
    obtain ⟨-, -, -, -, c4, -⟩ := h0.row.cells
    have z4 := h0.row.frozen 4
    have w4 : IntKind.i64.wrap ((st.rd : Int) + 1) = (r1 : Int) := by rw [IntKind.wrap_i64]; omega
    have hr2 : DevRow (W.setCell ⟨r, 4, none⟩ (.int .i64 (r1 : Int))) r (.slice xl st.last.length cl) vp sp { st with rd := r1 } := h0.row.set 4 _ rfl
    have hg2 := grown_cell W r 4 (.int .i64 (r1 : Int))
    have hP2 := h0.turned (st' := { st with rd := r1 }) hg2 hr2 rfl rfl h.s0 h.s1 h.left h0.apart
    have hK2 := h0.keepF hg2
    have hzr : z ≠ r := fun e => by have := hrl r (h.sub r h.rF); omega
    have hZ2 : ScR (W.setCell ⟨r, 4, none⟩ (.int .i64 (r1 : Int))) z secZ := hZ.blk (hg2.block z hZ.lt (fun e => by cases e; exact hzr rfl))
    generalize (st.rd : Int) = rd0 at c4 w4
    have HK0 : Hid (Keep F w W) := Keep.of_below b0
    clear h0 hr2 hg2 hZ
    go_upto_region 7 with fail
    generalize W.setCell ⟨r, 4, none⟩ (.int .i64 (r1 : Int)) = X at hP2 hK2 hZ2 ⊢
    have hcu := current_any X r _ vp ps sp { st with rd := r1 } F R m hP2 hml hp9
    have hce : curS { st with rd := r1 } m ({ st with rd := r1 } : DSt).pend.length = curS st m st.pend.length := rfl
    rw [hce, hs1] at hcu
    clear c4 z4 w4
    go_wp2_with fail
    refine hcu.mono ?_
    rintro e X1 ⟨rfl, hB1⟩
    have hZ3 := hZ2.kept hB1
    have hE : ScR (X1.setRow z (secA s1)) z s1 := ⟨rowOk_setRow_same _ _ _ hZ3.1 (secA_size _), rowAt_setRow_same _ _ _ hZ3.1⟩
    have hKz : Keep [z] X (X1.setRow z (secA s1)) := (Keep.of_below hB1).trans (Keep.of_grown (setRow_grown X1 z _) (fun q hq => by cases hq; simp))
    have HP : Hid (DevP (X1.setRow z (secA s1)) r (.slice xl st.last.length cl) vp ps sp { st with rd := r1 } F R) := hP2.keeps hKz (fun q hq => by have := hrl q hq; simp; omega)
    have hKz2 : Keep (z :: F) w (X1.setRow z (secA s1)) := (((HK0.out).mono (fun q hq => .inl (List.mem_cons_of_mem _ hq))).trans (hK2.mono (fun q hq => .inl (List.mem_cons_of_mem _ hq)))).trans (hKz.mono (fun q hq => .inl (by simp only [List.mem_singleton] at hq; simp [hq])))
    have HK : Hid (Keep F w (X1.setRow z (secA s1))) := hKz2.mono (fun q hq => by
      rcases List.mem_cons.1 hq with rfl | hq
      · exact .inr (by omega)
      · exact .inl hq)
    have HE : Hid _ := hE
    obtain ⟨rok, rat⟩ := hZ3
    clear hcu hB1 hE hKz hKz2 hP2 hK2 HK0 hZ2 h hrl hce b0 hQ hQ2 hS
    go_wp2
    exact sec_bodyPost2 4 5 z s1 rfl rfl rfl HE.out ⟨rfl, F, R, ⟨r, _, vp, ps, sp, rfl, HP.out⟩, fun q hq => .inl hq, fun q hq => .inl hq, HK.out⟩
  · have hQ : rdSec st a = secZ := by unfold rdSec; rw [if_neg hr0]
    have hS : rdSt st a = st := by unfold rdSt; rw [if_neg hr0]
    rw [hQ, hS]
    generalize rdRes st a = e9 at hRe hr0 ⊢
    have HP : Hid (∀ X, Below w.heap.size w X → DevP X r (.slice xl st.last.length cl) vp ps sp st F R) := fun X hX => h.keeps (G := []) (Keep.of_below hX) (fun _ _ => by simp)
    go_enter Try.func19, Try.ntmps19
    go_wp2_with fail
    obtain ⟨z, hz⟩ : ∃ z, w.heap.size = z := ⟨_, rfl⟩
    simp only [hz]
    rw [hz] at hZ
    generalize w.alloc (.cells (secA secZ) 27) = W at b0 hZ h0 hRe ⊢
    refine hRe.mono ?_
    rintro e w1 ⟨rfl, hw1⟩
    rw [hw1]
    have hE : ScR (W.setRow z (secA secZ)) z secZ := ⟨rowOk_setRow_same _ _ _ hZ.1 (secA_size _), rowAt_setRow_same _ _ _ hZ.1⟩
    have HE : Hid _ := hE
    have HB : Hid (Below w.heap.size w (W.setRow z (secA secZ))) := setRow_bel b0 (by omega) _
    obtain ⟨rok, rat⟩ := hZ
    clear hRe hw1 h h0 hE hQ hS
    go_wp2
    exact sec_bodyPost2 4 5 z secZ rfl rfl rfl HE.out ⟨rfl, F, R, ⟨r, _, vp, ps, sp, rfl, HP.out _ HB.out⟩, fun q hq => .inl hq, fun q hq => .inl hq, Keep.of_below HB.out⟩
end Go.Proofs.Ytadnfiikfhdphaa
