import Derived.Test.YtpckdkgbeemalaaQRef10
import Derived.Test.YtpckdkgbeemalaaQKbt
namespace Go.Proofs.Ytpckdkgbeemalaa
open Go.RowKit

/-! assayref10's Do -/
def jlT (l : List Wr) (i : Nat) : List Wr := (List.range i).map fun k => (((3 + k : Nat) : Int), dtW l k)
theorem jlT_len (l : List Wr) (i : Nat) : (jlT l i).length = i := by simp [jlT]
theorem jlT_succ (l : List Wr) (i : Nat) : jlT l (i + 1) = jlT l i ++ [(((3 + i : Nat) : Int), dtW l i)] := by unfold jlT; rw [List.range_succ, List.map_append]; rfl
theorem do_cases (st : DSt) (l : List Wr) (hE : mPutE l (dnI st) = 0) (e1 e2 e3 e4 : Int) (s1 s2 s3 s4 : DSt) (h1 : jpR st (jlW l) = e1) (g1 : jpS st (jlW l) = s1) (h2 : jpR s1 [(2, mPutS l (dnI st))] = e2) (g2 : jpS s1 [(2, mPutS l (dnI st))] = s2)
    (h3 : jpR s2 l = e3) (g3 : jpS s2 l = s3) (h4 : jpR s3 clrL = e4) (g4 : jpS s3 clrL = s4) :
    doR st l = (if e1 = 0 then (if e2 = 0 then (if e3 = 0 then e4 else e3) else e2) else e1) ∧ doS st l = (if e1 = 0 then (if e2 = 0 then (if e3 = 0 then s4 else s3) else s2) else s1) := by
  unfold doR doS doL
  rw [if_pos hE, if_pos hE]
  simp only [seqR, seqS, h1, g1, h2, g2, h3, g3, h4, g4]
  by_cases a1 : e1 = 0
  · simp only [a1, if_true]
    by_cases a2 : e2 = 0
    · simp only [a2, if_true]
      by_cases a3 : e3 = 0
      · simp only [a3, if_true]
        by_cases a4 : e4 = 0
        · simp [a4]
        · simp [a4]
      · simp [a3]
    · simp [a2]
  · simp [a1]
set_option linter.unusedSimpArgs false in
set_option maxRecDepth 100000 in
set_option maxHeartbeats 3200000 in
theorem rdo10_any (l : List Wr) (x : Option Addr) (L c : Nat) (w : World) (B r : Nat) (st : DSt) (F : List Nat) (hL : l.length = L) (hL9 : L ≤ 2199023255552) (hl : IsK wrE w (.slice x L c) l) (hlB : WrB l) (hx : l ≠ [] → ∀ a, x = some a → a.block ∉ F) (h : RefIs w B r st F) (hp9 : st.pend.length ≤ 1099511627766) (hw9 : st.wt ≤ 2305843009213693952) (hf9 : st.fl ≤ 2305843009213693952) :
    Calls Try.prog 42 #[.pointer (some ⟨r, 0, none⟩), .slice x L c] w fun e w' => e = .returned (.int .i64 (doR st l)) ∧ RefPost w B r F (doS st l) w' := by
  have hok := h.ok
  have hn0 := hok.lo
  have hn1 := hok.hi
  obtain ⟨vl, vp, r1, r2, -⟩ := id h
  obtain ⟨xl, cl, rfl⟩ := (r2.isK secE_ok).len
  obtain ⟨k0, -⟩ := r1.cells
  have hdn : dnI st = (st.last.length : Int) := rfl
  obtain ⟨m, hm⟩ : ∃ q, st.last.length = q := ⟨_, rfl⟩
  rw [hm] at k0 hdn hn0 hn1
  have hPt := rPut9_any l x L c (m : Int) w hL (by omega) hl hlB (by omega) (by omega)
  obtain ⟨MS, hMS⟩ : ∃ q, mPutS l (m : Int) = q := ⟨_, rfl⟩
  obtain ⟨ME, hME⟩ : ∃ q, mPutE l (m : Int) = q := ⟨_, rfl⟩
  rw [hMS, hME] at hPt
  clear r1 r2 hm hok
  go_enter Try.func42, Try.ntmps42
  go_wp2_with fail
  go_at_call 16
  refine hPt.mono ?_
  rintro e w1 ⟨rfl, hb1⟩
  have hb2 := hb1.trans ((below_alloc w1 (.cells (secA MS) 44)).mono hb1.size)
  have h5 : ScR (w1.alloc (.cells (secA MS) 44)) w1.heap.size MS := ScR.new w1 MS 44
  have hg5w : w.heap.size ≤ w1.heap.size := hb1.size
  clear hPt hb1 k0
  go_upto_region 2 with fail
  obtain ⟨g5, hg5⟩ : ∃ q, w1.heap.size = q := ⟨_, rfl⟩
  rw [hg5] at h5 hg5w
  simp only [hg5]
  clear hg5
  generalize w1.alloc (.cells (secA MS) 44) = V at h5 hb2 ⊢
  by_cases hE : ME = 0
  · subst hE
    have hbt : batB (m : Int) l = true := by
      rcases mPut_bat (n := m) (by omega) (by omega) l with ⟨-, -, q⟩ | ⟨q, -⟩
      · exact q
      · omega
    have hl8 := bat_len hbt
    rw [hL] at hl8
    have hxl : ∀ a, x = some a → a.block < w.heap.size := fun a ha => by
      obtain ⟨b, o, e9, q1, -⟩ := hl.at 0 _ (List.getElem?_eq_getElem (by omega))
      rw [ha] at e9
      cases e9
      exact q1
    obtain ⟨N0, hN0⟩ : ∃ q, V.heap.size = q := ⟨_, rfl⟩
    have hVN : Below N0 V V := Below.refl _ _
    go_upto_region 5 with fail
    go_wp2_with fail
    go_loopw [7, 8] (fun jv iv wr => ∃ i : Nat, i ≤ L ∧ iv = .int .i64 i ∧ OwnK wrE wr N0 jv (jlT l i) ∧ Below N0 V wr ∧ N0 ≤ wr.heap.size) (fun _ iv _ => L - (intOf iv).toNat)
    case atStart => exact ⟨0, by omega, rfl, OwnK.nil _ _ _, hVN, by omega⟩
    case round =>
      clear hVN
      obtain ⟨i, hi, rfl, hj, hBr, hszr⟩ := hrel
      have hBw : Below w.heap.size w wr := hb2.trans (hBr.mono (by have := hb2.size; omega))
      by_cases hlt : i < L
      · have hlt' : (i : Int) < (L : Int) := by omega
        have hg9 : l[i]? = some (atW l i, dtW l i) := by
          have := atW_get (List.getElem?_eq_getElem (show i < l.length by omega))
          rw [this.1, this.2]
          exact List.getElem?_eq_getElem (by omega)
        obtain ⟨bl, of, rfl, hbl, hrw⟩ := (hl.kept hBw).at i _ hg9
        rw [wrE_k] at hrw
        have hdt := rg_of (k := 64) (w := wr) (b := bl) (o := of + i * 65 + 1) (cs := (secA (dtW l i)).toList) (fun j u hu => by
          rw [wrE_enc, wrA_list] at hrw
          have := hrw (j + 1) u (by rw [List.getElem?_cons_succ]; exact hu)
          rwa [show of + i * 65 + (j + 1) = of + i * 65 + 1 + j by omega] at this) (by simp)
        obtain ⟨rk, rv⟩ := hdt
        rw [Array.toArray_toList] at rv
        have m3 : IntKind.i64.wrap (3 + (i : Int)) = ((3 + i : Nat) : Int) := by rw [IntKind.wrap_i64]; omega
        have hjs := jlT_succ l i
        obtain ⟨i3, hi3⟩ : ∃ q, 3 + i = q := ⟨_, rfl⟩
        obtain ⟨dt, hdte⟩ : ∃ q, dtW l i = q := ⟨_, rfl⟩
        rw [hi3, hdte] at hjs
        rw [hi3] at m3
        rw [hdte] at rv
        have hA := below_alloc wr (.cells (wrA ((i3 : Int), dt)) 54)
        have hnew : (wr.alloc (.cells (wrA ((i3 : Int), dt)) 54)).rangeAt wr.heap.size 0 (wrE.enc ((i3 : Int), dt)) := newWr wr _
        obtain ⟨gj, cj, w6, hr6, o1, -, o3, -⟩ := run_app1K wrE_ok (wr.alloc (.cells (wrA ((i3 : Int), dt)) 54)) N0 wr.heap.size _ (jlT l i) ((i3 : Int), dt) 23 (OwnK.keep hj hA) hnew (by simp) (by rw [jlT_len]; show (i + 1) * 72 ≤ _; omega) (by rw [jlT_len]; unfold maxLen; omega) (by simp; omega)
        have hTS : wrE.S = 23 := rfl
        rw [hTS, jlT_len] at hr6
        rw [jlT_len, ← hjs] at o1
        have hb6 : Below N0 wr w6 := (hA.mono hszr).trans (OwnK.below (OwnK.keep hj hA) o3 (by simp; omega))
        have H : Hid (OwnK wrE w6 N0 (.slice (some ⟨gj, 0, none⟩) (i + 1) cj) (jlT l (i + 1)) ∧ Below N0 V w6 ∧ N0 ≤ w6.heap.size) := ⟨o1, hBr.trans hb6, by have := o3.size; simp at this; omega⟩
        clear hj hBr hBw hg9 hrw hA hnew o1 o3 hb6 hjs hdte hi3 hbl
        go_wp2_with (at_builtin; refine wpL_appT 23 rfl _ _ rfl _ w6 (by exact hr6) ?_)
        go_roundw
        case rel => exact ⟨i + 1, by omega, by go_num, H.out⟩
        case measure => simp [intOf]; omega
      · obtain rfl : L = i := by omega
        have hlt' : ¬ (L : Int) < (L : Int) := by omega
        have hje : jlT l L = jlW l := by unfold jlT jlW; rw [hL]
        rw [hje] at hj
        have hjl : (jlW l).length = L := by rw [jlW_len, hL]
        obtain ⟨yj, cj, rfl⟩ := (OwnK.isK wrE_ok hj).len
        rw [hjl] at hj ⊢
        obtain ⟨gj, rfl, hgjl⟩ := OwnK.form hj (by omega)
        have hgj := OwnK.ge hj
        have hRV : RefIs V B r st F := h.later hb2
        have hlt5 := h5.lt
        have hFV : ∀ q ∈ F, q < N0 := fun q hq => by rw [← hN0]; exact (hRV.lt q hq).2
        have hRw : RefIs wr B r st F := hRV.later (by rw [hN0]; exact hBr)
        have h5w := h5.below9 hBr (by omega)
        have h5F : g5 ∉ F := fun hm => by
          have := (h.lt g5 hm).2
          omega
        have kw : Keep F w wr := Keep.of_below hBw
        have hlw := hl.kept hBw
        obtain ⟨e1, he1⟩ : ∃ q, jpR st (jlW l) = q := ⟨_, rfl⟩
        obtain ⟨s1, hs1⟩ : ∃ q, jpS st (jlW l) = q := ⟨_, rfl⟩
        obtain ⟨e2, he2⟩ : ∃ q, jpR s1 [(2, MS)] = q := ⟨_, rfl⟩
        obtain ⟨s2, hs2⟩ : ∃ q, jpS s1 [(2, MS)] = q := ⟨_, rfl⟩
        obtain ⟨e3, he3⟩ : ∃ q, jpR s2 l = q := ⟨_, rfl⟩
        obtain ⟨s3, hs3⟩ : ∃ q, jpS s2 l = q := ⟨_, rfl⟩
        obtain ⟨e4, he4⟩ : ∃ q, jpR s3 clrL = q := ⟨_, rfl⟩
        obtain ⟨s4, hs4⟩ : ∃ q, jpS s3 clrL = q := ⟨_, rfl⟩
        have hdc := do_cases st l (by rw [hdn]; exact hME) e1 e2 e3 e4 s1 s2 s3 s4 he1 hs1 (by rw [hdn, hMS]; exact he2) (by rw [hdn, hMS]; exact hs2) he3 hs3 he4 hs4
        obtain ⟨DR, hDR⟩ : ∃ q, doR st l = q := ⟨_, rfl⟩
        obtain ⟨DS, hDS⟩ : ∃ q, doS st l = q := ⟨_, rfl⟩
        have HDR : Hid (doR st l = DR) := hDR
        have HDS : Hid (doS st l = DS) := hDS
        rw [hDR, hDS] at hdc
        have z1 := jp_sm (jlW l) st
        rw [hs1, hjl] at z1
        have y1 := jp_zero (jlW l) st
        rw [he1, hs1] at y1
        have y2 := jp_zero [(2, MS)] s1
        rw [he2, hs2] at y2
        have y3 := jp_zero l s2
        rw [he3, hs3] at y3
        have z2 := jp_sm [(2, MS)] s1
        rw [hs2] at z2
        have z3 := jp_sm l s2
        rw [hs3, hL] at z3
        simp only [List.length_cons, List.length_nil] at z2
        have hq1 := rput10_any (jlW l) (some ⟨gj, 0, none⟩) L cj wr B r st F hjl (by omega) (OwnK.isK wrE_ok hj) (fun _ a ha hm => by cases ha; have := hFV _ hm; simp at this; omega) hRw (by omega) (by omega) (by omega)
        rw [he1, hs1] at hq1
        have HDC : Hid (DR = (if e1 = 0 then (if e2 = 0 then (if e3 = 0 then e4 else e3) else e2) else e1) ∧ DS = (if e1 = 0 then (if e2 = 0 then (if e3 = 0 then s4 else s3) else s2) else s1)) := hdc
        clear hdc hDR hDS hj hgjl hRV hRw hBr hb2
        go_wp2_with fail
        go_at_call 63
        refine hq1.mono ?_
        rintro e w2 ⟨rfl, F1, a1, a2, a3⟩
        have kw2 : Keep F w w2 := (RefPost.trans (F1 := F) (fun q hq => .inl hq) kw ⟨F1, a1, a2, a3⟩).elim fun _ q => q.2.2
        have kf2 : ∀ q ∈ F1, q ∈ F ∨ w.heap.size ≤ q := fun q hq => by
          rcases a2 q hq with hq | hq
          · exact .inl hq
          · right; have := kw.size; omega
        have h52 : ScR w2 g5 MS := by
          have := a3.block g5 h5w.lt h5F
          unfold ScR rowOk rowAt at *
          rw [this]; exact h5w
        have h5F1 : g5 ∉ F1 := fun hm => by
          rcases a2 g5 hm with q | q
          · exact h5F q
          · have := h5w.lt; omega
        clear hq1 a2 a3 h5w kw hlw
        by_cases c1 : e1 = 0
        · subst c1
          have hA2 := below_alloc w2 (.cells (wrA (2, MS)) 54)
          have hI2 : IsK wrE (w2.alloc (.cells (wrA (2, MS)) 54)) (.slice (some ⟨w2.heap.size, 0, none⟩) 1 1) [(2, MS)] := by
            have := (OwnK.lit1 wrE_ok w2 (2, MS)).isK wrE_ok
            rw [wrE_arr] at this
            exact this
          have hq2 := rput10_any [(2, MS)] (some ⟨w2.heap.size, 0, none⟩) 1 1 (w2.alloc (.cells (wrA (2, MS)) 54)) B r s1 F1 rfl (by omega) hI2 (fun _ a ha hm => by cases ha; have := (a1.lt _ hm).2; simp at this) (a1.later hA2) (by omega) (by omega) (by omega)
          rw [he2, hs2] at hq2
          clear hI2
          obtain ⟨ok5, rt5⟩ := h52
          go_wp2_with fail
          go_at_call 63
          refine hq2.mono ?_
          rintro e w3 ⟨rfl, F2, b1, b2, b3⟩
          have kw3a : Keep F w (w2.alloc (.cells (wrA (2, MS)) 54)) := kw2.trans (Keep.of_below hA2)
          have kw3 : Keep F w w3 := (RefPost.trans (F1 := F1) kf2 kw3a ⟨F2, b1, b2, b3⟩).elim fun _ q => q.2.2
          have kf3 : ∀ q ∈ F2, q ∈ F ∨ w.heap.size ≤ q := fun q hq => by
            rcases b2 q hq with hq | hq
            · exact kf2 q hq
            · right; have := kw3a.size; omega
          clear hq2 b2 b3 kw3a kw2 kf2 hA2 ok5 rt5 a1
          by_cases c2 : e2 = 0
          · subst c2
            have hq3 := rput10_any l x L c w3 B r s2 F2 hL (by omega) (hl.keeps10 kw3 hx) (fun h0 a ha hm => by
              rcases kf3 _ hm with q | q
              · exact hx h0 a ha q
              · have := hxl a ha; omega) b1 (by omega) (by omega) (by omega)
            rw [he3, hs3] at hq3
            go_wp2_with fail
            go_at_call 63
            refine hq3.mono ?_
            rintro e w4 ⟨rfl, F3, d1, d2, d3⟩
            have kw4 : Keep F w w4 := (RefPost.trans (F1 := F2) kf3 kw3 ⟨F3, d1, d2, d3⟩).elim fun _ q => q.2.2
            have kf4 : ∀ q ∈ F3, q ∈ F ∨ w.heap.size ≤ q := fun q hq => by
              rcases d2 q hq with hq | hq
              · exact kf3 q hq
              · right; have := kw3.size; omega
            clear hq3 d2 d3 kw3 kf3 b1
            by_cases c3 : e3 = 0
            · subst c3
              have hq4 := rclr10_any w4 B r s3 F3 d1 (by omega) (by omega) (by omega)
              rw [he4, hs4] at hq4
              go_wp2_with fail
              go_at_call 45
              refine hq4.mono ?_
              rintro e w5 ⟨rfl, hP⟩
              have HP : Hid (RefPost w B r F DS w5) := by
                show RefPost _ _ _ _ _ _
                rw [HDC.out.2]
                simp only [if_true]
                exact RefPost.trans kf4 kw4 hP
              have HE : Hid (e4 = DR) := by show _ = _; rw [HDC.out.1]; simp
              clear hq4 hP
              go_wp2_with fail
              go_ret
              exact ⟨by rw [HDR.out, ← HE.out]; rfl, by rw [HDS.out]; exact HP.out⟩
            · have HP : Hid (RefPost w B r F DS w4) := by
                show RefPost _ _ _ _ _ _
                rw [HDC.out.2]
                simp only [if_true, c3, if_false]
                exact ⟨F3, d1, kf4, kw4⟩
              have HE : Hid (e3 = DR) := by show _ = _; rw [HDC.out.1]; simp [c3]
              go_wp2_with fail
              go_ret
              exact ⟨by rw [HDR.out, ← HE.out]; rfl, by rw [HDS.out]; exact HP.out⟩
          · have HP : Hid (RefPost w B r F DS w3) := by
              show RefPost _ _ _ _ _ _
              rw [HDC.out.2]
              simp only [if_true, c2, if_false]
              exact ⟨F2, b1, kf3, kw3⟩
            have HE : Hid (e2 = DR) := by show _ = _; rw [HDC.out.1]; simp [c2]
            go_wp2_with fail
            go_ret
            exact ⟨by rw [HDR.out, ← HE.out]; rfl, by rw [HDS.out]; exact HP.out⟩
        · have HP : Hid (RefPost w B r F DS w2) := by
            show RefPost _ _ _ _ _ _
            rw [HDC.out.2]
            simp only [c1, if_false]
            exact ⟨F1, a1, kf2, kw2⟩
          have HE : Hid (e1 = DR) := by show _ = _; rw [HDC.out.1]; simp [c1]
          go_wp2_with fail
          go_ret
          exact ⟨by rw [HDR.out, ← HE.out]; rfl, by rw [HDS.out]; exact HP.out⟩
  · have hdR : doR st l = ME := by unfold doR; rw [hdn, hME, if_neg hE]
    have hdS : doS st l = st := by unfold doS; rw [hdn, hME, if_neg hE]
    have HP : Hid (RefPost w B r F (doS st l) V) := by show RefPost _ _ _ _ _ _; rw [hdS]; exact ⟨F, h.later hb2, fun q hq => .inl hq, Keep.of_below hb2⟩
    have HR : Hid (doR st l = ME) := hdR
    clear hdR hdS h hb2 h5
    go_wp2_with fail
    go_ret
    exact ⟨by rw [HR.out]; rfl, HP.out⟩
end Go.Proofs.Ytpckdkgbeemalaa
