import Derived.Test.YtadnfiikfhdphaaQDev5
namespace Go.Proofs.Ytadnfiikfhdphaa
open Go.RowKit

/-! The document's device: New, Read -/
def newE (n : Nat) : Int := if 64 ≤ n ∧ n ≤ 1024 then 0 else 22
def RefNewPost (w : World) (n : Nat) (ss : List Sc) (e : Ending) (w' : World) : Prop := Below w.heap.size w w' ∧
  ((64 ≤ n ∧ n ≤ 1024 ∧ ∃ r F, e = .returned (.tuple #[.pointer (some ⟨r, 0, none⟩), .int .i64 0]) ∧ RefIs w' w.heap.size r (newS ss) F) ∨ (¬ (64 ≤ n ∧ n ≤ 1024) ∧ e = .returned (.tuple #[.pointer none, .int .i64 22])))
set_option linter.unusedSimpArgs false in
set_option maxHeartbeats 400000 in
theorem refNew_any (w : World) (x : Option Addr) (n c : Nat) (ss : List Sc) (hn : ss.length = n) (h : IsK secE w (.slice x n c) ss) (hl : n ≤ 1099511627776) :
    Calls Try.prog 6 #[.slice x n c] w fun e w' => RefNewPost w n ss e w' := by
  by_cases h1 : 64 ≤ n
  · have g1 : ¬ (n : Int) < 64 := by omega
    by_cases h2 : n ≤ 1024
    · have g2 : ¬ (1024 : Int) < (n : Int) := by omega
      have hcp := h.cap.2
      have hR0 : RefRow (w.alloc (.cells (refA (.slice none 0 0) (.slice none 0 0) (newS ss)) 58)) w.heap.size (.slice none 0 0) (.slice none 0 0) (newS ss) := heap_alloc_last w _
      go_enter Try.func6, Try.ntmps6
      go_upto_region 4 with fail
      have hA : (#[Value.slice none 0 0, Value.slice none 0 0, Value.int .i64 (-1), Value.bool false, Value.int .i64 0, Value.int .i64 0, Value.int .i64 0] : Array Value) = refA (.slice none 0 0) (.slice none 0 0) (newS ss) := rfl
      rw [hA]
      have hb0 := below_alloc w (.cells (refA (.slice none 0 0) (.slice none 0 0) (newS ss)) 58)
      have hK0 := h.kept hb0
      have hsz : (w.alloc (.cells (refA (.slice none 0 0) (.slice none 0 0) (newS ss)) 58)).heap.size = w.heap.size + 1 := by simp
      generalize w.alloc (.cells (refA (.slice none 0 0) (.slice none 0 0) (newS ss)) 58) = X at hR0 hb0 hK0 hsz ⊢
      obtain ⟨rr, hrr⟩ : ∃ r, w.heap.size = r := ⟨_, rfl⟩
      simp only [hrr]
      rw [hrr] at hR0
      rw [← hn] at hK0
      obtain ⟨y, c', w2, hr, hO, hB⟩ := run_copyK secE_ok X (.slice none 0 0) x c ss X.heap.size 24 (OwnK.nil _ _ _) (Nat.le_refl _) hK0 (by show ss.length * 64 ≤ _; omega) (by unfold maxLen; omega)
      have hT : secE.S = 24 := rfl
      rw [hT, hn] at hr
      rw [hn] at hO
      obtain ⟨c0, -⟩ := hR0.cells
      have hR2 := hR0.kept (hB.block rr (by omega))
      obtain ⟨c0', -⟩ := hR2.cells
      have f0 := hR2.frozen 0
      have hR3 : RefRow (w2.setCell ⟨rr, 0, none⟩ (.slice y n c')) rr (.slice y n c') (.slice none 0 0) (newS ss) := hR2.set 0 _ rfl
      have hyb : ∀ q, (Value.slice y n c').ownBlock = some q → X.heap.size ≤ q ∧ q < w2.heap.size := World.ownsRow.lt hO
      have hG := grown_cell w2 rr 0 (.slice y n c')
      have hO3 := (hO.keeps (Keep.of_grown hG (F := [rr]) (fun q hq => by cases hq; simp)) (fun q hq => by have := hyb q hq; simp; omega)).le (B' := w.heap.size) (by omega)
      have hz := hB.size
      have HP : Hid (RefNewPost w n ss (.returned (.tuple #[.pointer (some ⟨rr, 0, none⟩), .int .i64 0])) (w2.setCell ⟨rr, 0, none⟩ (.slice y n c'))) := by
        refine ⟨?_, .inl ⟨h1, h2, rr, rr :: (Value.slice y n c').ownBlock.toList, rfl, _, _, hR3, hO3, OwnK.nil _ _ _, by simp, fun q hq => ?_, fun q hq => by simp [Value.ownBlock] at hq, fun q hq => ?_, ?_⟩⟩
        · have := hb0.trans (hB.mono hb0.size)
          exact this.setCell (p := ⟨rr, 0, none⟩) (by show _ ≤ rr; omega) _
        · have := hyb q hq
          exact ⟨by rw [hq]; simp, by omega, by simp [Value.ownBlock]⟩
        · have hs2 := hG.size
          rcases List.mem_cons.1 hq with rfl | hq
          · exact ⟨by omega, hR3.lt⟩
          · have := hyb q (by simpa using hq)
            omega
        · exact ⟨fun x hx => (by cases hx), by show 64 ≤ ss.length; omega, by show ss.length ≤ 1024; omega, by show (-1 : Int) ≤ -1; omega, by show (-1 : Int) ≤ _; omega⟩
      clear hO3 hG hyb hR3 hR2 hR0 hO hB hK0 hb0
      go_wp2_with (at_builtin; refine wpL_appT 24 rfl _ _ rfl _ w2 (by exact hr) ?_)
      go_ret2
      exact HP.out
    · have g2 : (1024 : Int) < (n : Int) := by omega
      go_enter Try.func6, Try.ntmps6
      go_wp2
      go_ret2
      exact ⟨Below.refl _ _, .inr ⟨by omega, rfl⟩⟩
  · have g1 : (n : Int) < 64 := by omega
    go_enter Try.func6, Try.ntmps6
    go_wp2
    go_ret2
    exact ⟨Below.refl _ _, .inr ⟨by omega, rfl⟩⟩
/-- Two results: a sector out of its variable, and a number. -/
theorem setRow_grown (w : World) (g : Nat) (c : Array Value) : w.grownBy (w.setRow g c) (some g) := by
  refine ⟨rfl, rfl, rfl, by simp [World.setRow], fun k hk hne => ?_⟩
  have : g ≠ k := fun e => hne (by rw [e])
  simp [World.setRow, Array.getElem?_modify, this]
def curS (st : DSt) (a i : Nat) : Sc := ((over st.last (st.pend.take i))[a]?).getD secZ
theorem curS_zero (st : DSt) (a : Nat) (s : Sc) (h : st.last[a]? = some s) : curS st a 0 = s := by
  unfold curS
  simp [over, h]
theorem curS_same (st : DSt) (a i b : Nat) (x : Wr) (hx : st.pend[i]? = some x) (hb : x.1 = (b : Int)) (hne : b ≠ a) : curS st a (i + 1) = curS st a i := by
  unfold curS
  rw [over_step hx hb, List.getElem?_set_ne hne]
theorem curS_new (st : DSt) (a i : Nat) (x : Wr) (hx : st.pend[i]? = some x) (ha : x.1 = (a : Int)) (hl : a < st.last.length) : curS st a (i + 1) = x.2 := by
  unfold curS
  rw [over_step hx ha, List.getElem?_set_self (by rw [over_len]; exact hl)]
  rfl
set_option linter.unusedSimpArgs false in
set_option maxHeartbeats 800000 in
theorem refRead_any (w : World) (B r : Nat) (st : DSt) (F : List Nat) (a : Int) (h : RefIs w B r st F) (hp : st.pend.length ≤ 1099511627776) (hf : st.rd < 4611686018427387904) :
    Calls Try.prog 29 #[.pointer (some ⟨r, 0, none⟩), .int .i64 a] w fun e w' => e = .returned (.tuple #[.agg (secA (rdSec st a)), .int .i64 (rdRes st a)]) ∧ RefIs w' B r (rdSt st a) F ∧ Keep F w w' := by
  have h9 := h
  have h8 := h.ok
  obtain ⟨vl, vp, h1, h2, h3, h4, h5, h6, h7, -⟩ := h
  have b1 := below_alloc w (.cells (secA secZ) 27)
  have h1a := h1.kept (b1.block r h1.lt)
  have h9a := h9.later b1
  have hZ := ScR.new w secZ 27
  obtain ⟨-, -, -, c3, -⟩ := h1a.cells
  by_cases hd : st.down = true
  · rw [hd] at c3
    have HR : Hid (rdRes st a = 21) := by show _ = _; unfold rdRes; rw [if_pos hd]
    have HQ : Hid (rdSec st a = secZ) := by show _ = _; unfold rdSec; rw [HR.out]; rfl
    have HS : Hid (rdSt st a = st) := by show _ = _; unfold rdSt; rw [HR.out]; rfl
    have HK : Hid _ := h9a
    clear h1 h2 h3 h5 h6 h7 h9 h1a h9a b1
    go_enter Try.func29, Try.ntmps29
    go_wp2
    exact sec_bodyPost2 4 5 w.heap.size secZ rfl rfl rfl (ScR.new w secZ 27) ⟨by rw [HR.out, HQ.out]; rfl, by rw [HS.out]; exact HK.out, Keep.of_below (below_alloc _ _)⟩
  · have hd' : st.down = false := by simpa using hd
    rw [hd'] at c3
    obtain ⟨xl, cl, rfl⟩ := (h2.isK secE_ok).len
    obtain ⟨xp, cp, rfl⟩ := (h3.isK wrE_ok).len
    have ht := refThere_any r _ _ st xl cl a (w.alloc (.cells (secA secZ) 27)) h1a rfl
    obtain ⟨tb, htb⟩ : ∃ b, thereB st a = b := ⟨_, rfl⟩
    rw [htb] at ht
    cases tb with
    | false =>
      have HR : Hid (rdRes st a = 20) := by show _ = _; unfold rdRes; rw [if_neg hd, htb]; rfl
      have HQ : Hid (rdSec st a = secZ) := by show _ = _; unfold rdSec; rw [HR.out]; rfl
      have HS : Hid (rdSt st a = st) := by show _ = _; unfold rdSt; rw [HR.out]; rfl
      have HK : Hid _ := h9a
      clear h1 h2 h3 h5 h6 h7 h9 h1a h9a b1
      go_enter Try.func29, Try.ntmps29
      go_wp2_with fail
      refine ht.mono ?_
      rintro e w' ⟨rfl, rfl⟩
      go_wp2
      exact sec_bodyPost2 4 5 w.heap.size secZ rfl rfl rfl (ScR.new w secZ 27) ⟨by rw [HR.out, HQ.out]; rfl, by rw [HS.out]; exact HK.out, Keep.of_below (below_alloc _ _)⟩
    | true =>
      have hta : 0 ≤ a ∧ a < (st.last.length : Int) := by unfold thereB at htb; simpa using htb
      obtain ⟨m, rfl⟩ : ∃ m : Nat, a = (m : Int) := ⟨a.toNat, by omega⟩
      have hml : m < st.last.length := by omega
      obtain ⟨s0, hs0⟩ : ∃ s, st.last[m]? = some s := ⟨st.last[m], List.getElem?_eq_getElem hml⟩
      obtain ⟨r1, hr1⟩ : ∃ k, st.rd + 1 = k := ⟨_, rfl⟩
      have HR : Hid (rdRes st (m : Int) = 0) := by show _ = _; unfold rdRes; rw [if_neg hd, htb]; rfl
      have HQ : Hid (rdSec st (m : Int) = curS st m st.pend.length) := by show _ = _; unfold rdSec curS; rw [if_pos HR.out, List.take_of_length_le (Nat.le_refl _)]; rfl
      have HS : Hid (rdSt st (m : Int) = { st with rd := r1 }) := by show _ = _; unfold rdSt; rw [if_pos HR.out, hr1]
      obtain ⟨g, rfl, hg⟩ := h2.form (by have := h8.lo; omega)
      obtain ⟨-, -, -, -, c4, -⟩ := h1a.cells
      have f4 := h1a.frozen 4
      have hRR : RefRow ((w.alloc (.cells (secA secZ) 27)).setCell ⟨r, 4, none⟩ (.int .i64 (r1 : Int))) r _ _ { st with rd := r1 } := h1a.set 4 _ rfl
      have hK1 : Keep [r] (w.alloc (.cells (secA secZ) 27)) ((w.alloc (.cells (secA secZ) 27)).setCell ⟨r, 4, none⟩ (.int .i64 (r1 : Int))) := Keep.of_grown (grown_cell _ _ _ _) (fun q hq => by cases hq; simp)
      have hL := (h2.keep b1).keeps hK1 (fun q hq => by simpa using (h5 q hq).2.1)
      have hP := (h3.keep b1).keeps hK1 (fun q hq => by simpa using (h6 q hq).2)
      have hRd : RefIs ((w.alloc (.cells (secA secZ) 27)).setCell ⟨r, 4, none⟩ (.int .i64 (r1 : Int))) B r { st with rd := r1 } F :=
        ⟨_, _, hRR, hL, hP, h4, h5, h6, fun q hq => ⟨(h7 q hq).1, Nat.lt_of_lt_of_le (h7 q hq).2 (Nat.le_trans b1.size hK1.size)⟩, ⟨h8.at_, h8.lo, h8.hi, h8.l0, h8.l1⟩⟩
      have hKF : Keep F w ((w.alloc (.cells (secA secZ) 27)).setCell ⟨r, 4, none⟩ (.int .i64 (r1 : Int))) := (Keep.of_below b1).trans (hK1.mono (fun q hq => .inl (by simp only [List.mem_singleton] at hq; subst hq; exact h4)))
      have hZ1 : ScR ((w.alloc (.cells (secA secZ) 27)).setCell ⟨r, 4, none⟩ (.int .i64 (r1 : Int))) w.heap.size secZ := hZ.set_ne 4 _ (by have := h1.lt; omega)
      have hr0 := hL.range secE_ok m s0 hs0
      rw [secE_k, secE_enc] at hr0
      obtain ⟨ok0, rg0⟩ := rg_of hr0 (by simp : (secA s0).toList.length = 64)
      rw [toA] at rg0
      obtain ⟨n, hn⟩ : ∃ n, st.last.length = n := ⟨_, rfl⟩
      obtain ⟨np, hnp⟩ : ∃ n, st.pend.length = n := ⟨_, rfl⟩
      have wr1 : IntKind.i64.wrap (r1 : Int) = (r1 : Int) := by rw [IntKind.wrap_i64]; omega
      have wr2 : (st.rd : Int) + 1 = (r1 : Int) := by omega
      have m0 : (0 : Int) ≤ (m : Int) := by omega
      have m1 : (m : Int) < (n : Int) := by omega
      have hzs : ((w.alloc (.cells (secA secZ) 27)).setCell ⟨r, 4, none⟩ (.int .i64 (r1 : Int))).heap.size = w.heap.size + 1 := by simp [World.setCell]
      rw [hn, hnp] at hRR
      rw [hnp] at hP hp HQ
      obtain ⟨d0, d1, -⟩ := hRR.cells
      have HFl : Hid (∀ q ∈ F, q < w.heap.size) := fun q hq => (h7 q hq).2
      have hpb0 := fun q hq => (World.ownsRow.lt h3 q hq).2
      rw [hnp] at hpb0
      have HPB : Hid _ := hpb0
      clear hpb0
      clear h1 h2 h3 h5 h6 h7 h9 h1a h9a b1 hZ hL hK1 hr0 hta htb
      go_enter Try.func29, Try.ntmps29
      go_wp2_with fail
      refine ht.mono ?_
      rintro e w' ⟨rfl, rfl⟩
      clear ht
      go_upto_region 6 with fail
      generalize ((w.alloc (.cells (secA secZ) 27)).setCell ⟨r, 4, none⟩ (.int .i64 (r1 : Int))) = X at hRR hP hRd hKF hZ1 ok0 rg0 d0 d1 hzs ⊢
      obtain ⟨gz, hgz⟩ : ∃ g, w.heap.size = g := ⟨_, rfl⟩
      simp only [hgz]
      rw [hgz] at hZ1 hzs
      have b2 := below_alloc X (.cells (secA s0) 27)
      have hS1 := ScR.new X s0 27
      have hZ2 := hZ1.kept b2
      have hRR2 := hRR.kept (b2.block r hRR.lt)
      have hP2 := hP.keep b2
      have hrl := hRR2.lt
      have hrl0 := hRR.lt
      have hgzX : gz < X.heap.size := by omega
      clear hzs
      go_wp2_with fail
      have hpb := HPB.out
      have hFl := HFl.out
      obtain ⟨gs, hgs⟩ : ∃ g, X.heap.size = g := ⟨_, rfl⟩
      simp only [hgs]
      rw [hgs] at hS1 hgzX hrl0
      generalize X.alloc (.cells (secA s0) 27) = X1 at b2 hS1 hZ2 hRR2 hP2 hrl ⊢
      have hgsl := hS1.lt
      have hgzl := hZ2.lt
      clear d0 d1 ok0 rg0
      go_loopw [7] (fun v wr => ∃ i : Nat, i ≤ np ∧ v = .int .i64 i ∧ ScR wr gs (curS st m i) ∧ X1.grownBy wr (some gs)) (fun v _ => np - (intOf v).toNat)
      case atStart => exact ⟨0, by omega, rfl, by rw [curS_zero st m s0 hs0]; exact hS1, grown_drew X1 0 _⟩
      case round =>
        clear hS1
        obtain ⟨i, hi, rfl, hS, hG⟩ := hrel
        have hK : Keep [gs] X1 wr := Keep.of_grown hG (fun q hq => by cases hq; simp)
        have hRw := hRR2.kept (hG.block r hrl (fun e => by cases e; omega))
        obtain ⟨-, k1, -⟩ := hRw.cells
        have i0 : (0 : Int) ≤ (i : Int) := by omega
        by_cases hlt : i < np
        · have i1 : (i : Int) < (np : Int) := by omega
          obtain ⟨x, hx⟩ : ∃ x, st.pend[i]? = some x := ⟨st.pend[i]'(by omega), List.getElem?_eq_getElem (by omega)⟩
          obtain ⟨b, hb, hbl⟩ := pend_at h8 hx
          have hPw := hP2.keeps hK (fun q hq => by have := hpb q hq; simp; omega)
          obtain ⟨gp, rfl, hgp⟩ := hPw.form (by omega)
          obtain ⟨d0, dok, drg⟩ := wrCells hPw i x hx
          rw [hb] at d0
          by_cases he : b = m
          · have hbm : (b : Int) = (m : Int) := by omega
            have hc := curS_new st m i x hx (by rw [hb, he]) (by omega)
            have hS2 : ScR (wr.setRow gs (secA x.2)) gs x.2 := ⟨rowOk_setRow_same _ _ _ hS.1 (secA_size _), rowAt_setRow_same _ _ _ hS.1⟩
            rw [← hc] at hS2 drg
            have HS2 : Hid _ := hS2
            have HG : Hid _ := grown_two hG (setRow_grown wr gs (secA x.2))
            rw [← hc] at HG
            obtain ⟨rok, rat⟩ := hS
            clear hS2 hG hK hRw hPw hx hb hc
            subst he
            generalize hcs : curS st b (i + 1) = s1 at *
            go_wp2
            go_roundw
            case rel => exact ⟨i + 1, by omega, by go_num, by rw [hcs]; exact HS2.out, HG.out⟩
            case measure => simp [intOf]; omega
          · have hbm : ¬ (b : Int) = (m : Int) := by omega
            rw [← curS_same st m i b x hx hb he] at hS
            have HS2 : Hid _ := hS
            have HG : Hid _ := hG
            clear hS hG hK hRw hPw hx hb dok drg
            go_wp2
            go_roundw
            case rel => exact ⟨i + 1, by omega, by go_num, HS2.out, HG.out⟩
            case measure => simp [intOf]; omega
        · obtain rfl : i = np := by omega
          have hZw := hZ2.1
          have hZb : wr.heap[gz]? = X1.heap[gz]? := hG.block gz hgzl (fun e => by cases e; omega)
          have hZ3 : ScR wr gz secZ := by
            unfold ScR rowOk rowAt at *
            rw [hZb]; exact hZ2
          have hE : ScR (wr.setRow gz (secA (curS st m i))) gz (curS st m i) := ⟨rowOk_setRow_same _ _ _ hZ3.1 (secA_size _), rowAt_setRow_same _ _ _ hZ3.1⟩
          have hK9 : Keep [gs, gz] X (wr.setRow gz (secA (curS st m i))) := ((Keep.of_below b2).trans (hK.mono (fun q hq => .inl (by simp only [List.mem_singleton] at hq; simp [hq])))).trans (Keep.of_grown (setRow_grown wr gz _) (fun q hq => by cases hq; simp))
          have HF : Hid (RefIs (wr.setRow gz (secA (curS st m i))) B r (rdSt st (m : Int)) F) := by
            show RefIs _ _ _ _ _
            rw [HS.out]
            exact hRd.keeps hK9 (fun q hq => by have := hFl q hq; simp; omega)
          have HK : Hid (Keep F w (wr.setRow gz (secA (curS st m i)))) := by
            refine ⟨hK9.os.trans hKF.os, hK9.tape.trans hKF.tape, hK9.output.trans hKF.output, Nat.le_trans hKF.size hK9.size, fun q hq hn => ?_⟩
            rw [hK9.block q (Nat.lt_of_lt_of_le hq hKF.size) (by simp; omega)]
            exact hKF.block q hq hn
          have HE : Hid _ := hE
          obtain ⟨rok, rat⟩ := hS
          obtain ⟨zok, zat⟩ := hZ3
          clear hE hK9 hG hK hRw hP hP2 hRR hRR2 hRd hKF hZ1 hZ2 hZw hZb b2
          generalize hcs : curS st m i = s1 at *
          go_wp2
          exact sec_bodyPost2 4 5 gz s1 rfl rfl rfl HE.out ⟨by rw [HR.out, HQ.out]; rfl, HF.out, HK.out⟩
end Go.Proofs.Ytadnfiikfhdphaa
