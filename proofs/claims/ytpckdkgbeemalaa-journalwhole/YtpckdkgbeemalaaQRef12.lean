import Derived.Test.YtpckdkgbeemalaaQRef11
import Derived.Test.YtpckdkgbeemalaaQDev5
import Derived.Test.YtpckdkgbeemalaaQRelk
namespace Go.Proofs.Ytpckdkgbeemalaa
open Go.RowKit

/-! assayref10's Replay -/
def TupR (B : Nat) (K : Int) (Q : Nat) (l : List Wr) (v : Value) (x : World) : Prop := ∃ y c, v = .tuple #[.int .i64 K, .slice y Q c] ∧ OwnK wrE x B (.slice y Q c) l
def SlR (B : Nat) (Q : Nat) (l : List Wr) (v : Value) (x : World) : Prop := ∃ y c, v = .slice y Q c ∧ OwnK wrE x B (.slice y Q c) l
theorem TupR.keep {B : Nat} {K : Int} {Q : Nat} {l : List Wr} {v : Value} {x x' : World} (h : TupR B K Q l v x) (hb : Below x.heap.size x x') : TupR B K Q l v x' := by
  obtain ⟨y, c, h1, h2⟩ := h
  exact ⟨y, c, h1, OwnK.keep h2 hb⟩
theorem SlR.keep {B : Nat} {Q : Nat} {l : List Wr} {v : Value} {x x' : World} (h : SlR B Q l v x) (hb : Below x.heap.size x x') : SlR B Q l v x' := by
  obtain ⟨y, c, h1, h2⟩ := h
  exact ⟨y, c, h1, OwnK.keep h2 hb⟩
theorem isK_tail10 {w : World} {B g n c : Nat} {a : Sc} {l : List Sc} (h : OwnK secE w B (.slice (some ⟨g, 0, none⟩) (n + 1) c) (a :: l)) (hl : l.length = n) : IsK secE w (.slice (some ⟨g, 64, none⟩) n (c - 1)) l := by
  obtain ⟨cur, h1, h2, h3, h4, h5, h6, h7⟩ := h.heap
  subst hl
  refine ⟨some ⟨g, 64, none⟩, c - 1, rfl, by omega, fun i d hi => ⟨g, 64, rfl, (World.ownsRow.lt h g rfl).2, ?_⟩⟩
  have := h.range secE_ok (i + 1) d (by rw [List.getElem?_cons_succ]; exact hi)
  rwa [secE_k, show (i + 1) * 64 = 64 + i * 64 by omega] at this
def rdN (st : DSt) (k : Nat) : DSt := { st with rd := st.rd + k }
theorem rdN_read {st : DSt} {k : Nat} {a : Nat} (hd : st.down = false) (ha : a < st.last.length) : rdRes (rdN st k) (a : Int) = 0 ∧ rdSt (rdN st k) (a : Int) = rdN st (k + 1) ∧ rdSec (rdN st k) (a : Int) = ((over st.last st.pend)[a]?).getD secZ := by
  have h0 : rdRes (rdN st k) (a : Int) = 0 := by
    unfold rdRes
    have h1 : (rdN st k).down = false := hd
    have h2 : thereB (rdN st k) (a : Int) = true := by unfold thereB; simp; exact ha
    rw [h1, h2]; rfl
  refine ⟨h0, ?_, ?_⟩
  · unfold rdSt; rw [if_pos h0]; rfl
  · unfold rdSec; rw [if_pos h0, Int.toNat_natCast]; rfl
set_option linter.unusedSimpArgs false in
set_option maxRecDepth 100000 in
set_option maxHeartbeats 3200000 in
theorem rrep10_any (w : World) (B r : Nat) (st : DSt) (F : List Nat) (h : RefIs w B r st F) (hp9 : st.pend.length ≤ 1099511627766) (hw9 : st.wt ≤ 2305843009213693952) (hf9 : st.fl ≤ 2305843009213693952) (hr9 : st.rd ≤ 2305843009213693952) :
    Calls Try.prog 44 #[.pointer (some ⟨r, 0, none⟩)] w fun e w' => e = .returned (.tuple #[.int .i64 (repK st), .int .i64 (repE st)]) ∧ RefPost w B r F (repS st) w' := by
  have hok := h.ok
  have hn0 := hok.lo
  have hn1 := hok.hi
  by_cases hd : st.down = true
  · have hRd := refRead_any w B r st F 2 h (by omega) (by omega)
    have e1 : rdRes st 2 = 21 := by unfold rdRes; rw [if_pos hd]
    have e2 : rdSt st 2 = st := by unfold rdSt; rw [if_neg (by rw [e1]; decide)]
    rw [e1, e2] at hRd
    have hE : repE st = 21 := by unfold repE; rw [if_pos hd]
    have hK : repK st = 0 := by unfold repK; rw [if_neg (by rw [hE]; decide)]
    have hS : repS st = st := by unfold repS; rw [if_pos hd]
    rw [hE, hK, hS]
    clear e1 e2 hE hK hS
    go_enter Try.func44, Try.ntmps44
    go_wp2_with fail
    go_loopw [5] (fun iv wr => iv = .int .i64 2 ∧ wr = w) (fun _ _ => 0)
    case atStart => exact ⟨rfl, rfl⟩
    case round =>
      obtain ⟨rfl, rfl⟩ := hrel
      go_wp2_with fail
      go_at_call 64
      refine hRd.mono ?_
      rintro e w1 ⟨rfl, a1, a2⟩
      have hA := below_alloc w1 (.cells (secA (rdSec st 2)) 44)
      have HP : Hid (RefPost wr B r F st (w1.alloc (.cells (secA (rdSec st 2)) 44))) := ⟨F, a1.later hA, fun q hq => .inl hq, a2.trans (Keep.of_below hA)⟩
      clear hRd a1 a2 hA
      go_wp2_with fail
      exact tmp2_bodyPost9 2 3 rfl rfl ⟨rfl, HP.out⟩
  · have hdf : st.down = false := by simpa using hd
    clear hd hok
    obtain ⟨O9, hO9⟩ : ∃ q, over st.last st.pend = q := ⟨_, rfl⟩
    have hOl : O9.length = st.last.length := by rw [← hO9, over_len]
    obtain ⟨m, hm⟩ : ∃ q, st.last.length = q := ⟨_, rfl⟩
    have hFw : ∀ q ∈ F, q < w.heap.size := fun q hq => (h.lt q hq).2
    obtain ⟨N0, hN0⟩ : ∃ q, w.heap.size = q := ⟨_, rfl⟩
    go_enter Try.func44, Try.ntmps44
    go_wp2_with fail
    go_loopw [4, 5] (fun lv iv wr => ∃ k : Nat, k ≤ 9 ∧ iv = .int .i64 ((2 + k : Nat) : Int) ∧ OwnK secE wr N0 lv ((O9.drop 2).take k) ∧ RefIs wr B r (rdN st k) F ∧ Keep F w wr) (fun _ iv _ => 11 - (intOf iv).toNat)
    case atStart => exact ⟨0, by omega, rfl, by rw [List.take_zero]; exact OwnK.nil _ _ _, h, Keep.refl _ _⟩
    case round =>
      obtain ⟨k, hk, rfl, hl9, hR, kw⟩ := hrel
      have hsw := kw.size
      by_cases hlt : k < 9
      · obtain ⟨q1, q2, q3⟩ := rdN_read (st := st) (k := k) (a := 2 + k) hdf (by omega)
        rw [hO9] at q3
        have hRd := refRead_any wr B r (rdN st k) F ((2 + k : Nat) : Int) hR (by show st.pend.length ≤ _; omega) (by show st.rd + k < _; omega)
        rw [q1, q2] at hRd
        obtain ⟨s9, hs9⟩ : ∃ q, rdSec (rdN st k) ((2 + k : Nat) : Int) = q := ⟨_, rfl⟩
        rw [hs9] at hRd q3
        have htk : (O9.drop 2).take (k + 1) = (O9.drop 2).take k ++ [s9] := by
          rw [List.take_add_one, List.getElem?_drop]
          have : O9[2 + k]? = some s9 := by
            rw [q3, List.getElem?_eq_getElem (by omega)]; rfl
          rw [this]; rfl
        have hlen : ((O9.drop 2).take k).length = k := by simp; omega
        obtain ⟨i2, hi2⟩ : ∃ q, 2 + k = q := ⟨_, rfl⟩
        rw [hi2] at hRd ⊢
        have hi11 : (i2 : Int) < 11 := by omega
        clear q1 q2 q3 hs9
        go_wp2_with fail
        go_at_call 64
        refine hRd.mono ?_
        rintro e w1 ⟨rfl, a1, a2⟩
        have hl1 : OwnK secE w1 N0 u4 ((O9.drop 2).take k) := OwnK.keeps hl9 a2 (fun q hq hm => by
          have := (World.ownsRow.lt hl9 q hq).1
          have := hFw q hm
          omega)
        have b1 := below_alloc w1 (.cells (secA s9) 44)
        have h6 : ScR (w1.alloc (.cells (secA s9) 44)) w1.heap.size s9 := ScR.new w1 s9 44
        have hl2 := OwnK.keep hl1 b1
        have hR2 := a1.later b1
        have kw2 := (kw.trans a2).trans (Keep.of_below b1)
        clear hRd hl9 hR a1 a2 hl1 kw b1
        go_upto_region 6 with fail
        obtain ⟨g6, hg6⟩ : ∃ q, w1.heap.size = q := ⟨_, rfl⟩
        rw [hg6] at h6
        simp only [hg6]
        clear hg6
        generalize w1.alloc (.cells (secA s9) 44) = Y at h6 hl2 hR2 kw2 ⊢
        have hsY := kw2.size
        have hA := below_alloc Y (.cells (secA s9) 44)
        have hnew : (Y.alloc (.cells (secA s9) 44)).rangeAt Y.heap.size 0 (secE.enc s9) := by rw [secE_enc]; exact (ScR.new Y s9 _).range
        obtain ⟨gj, cj, w6, hr6, o1, -, o3, -⟩ := run_app1K secE_ok (Y.alloc (.cells (secA s9) 44)) N0 Y.heap.size _ ((O9.drop 2).take k) s9 32 (OwnK.keep hl2 hA) hnew (by simp) (by rw [hlen]; show (k + 1) * 64 ≤ _; omega) (by rw [hlen]; unfold maxLen; omega) (by simp; omega)
        have hTS : secE.S = 32 := rfl
        rw [hTS, hlen] at hr6
        rw [hlen, ← htk] at o1
        have hR6 : RefIs w6 B r (rdN st (k + 1)) F := (hR2.later hA).keeps (Keep.of_grown o3 (F := u4.ownBlock.toList) (fun q hq => by rw [hq]; simp)) (fun q hq hm => by
          have h1 := (World.ownsRow.lt hl2 q (by simpa using hm)).1
          have h2 := hFw q hq
          omega)
        have hb6 : Below N0 (Y.alloc (.cells (secA s9) 44)) w6 := OwnK.below (OwnK.keep hl2 hA) o3 (by simp; omega)
        have kw6 : Keep F w w6 := by
          have ka := kw2.trans (Keep.of_below hA)
          exact ⟨hb6.os.trans ka.os, hb6.tape.trans ka.tape, hb6.output.trans ka.output, Nat.le_trans ka.size hb6.size, fun q hq hm => (hb6.block q (by omega)).trans (ka.block q hq hm)⟩
        have H : Hid (OwnK secE w6 N0 (.slice (some ⟨gj, 0, none⟩) (k + 1) cj) ((O9.drop 2).take (k + 1)) ∧ RefIs w6 B r (rdN st (k + 1)) F ∧ Keep F w w6) := ⟨o1, hR6, kw6⟩
        obtain ⟨ok6, rt6⟩ := h6
        clear hl2 hR2 kw2 hA hnew o1 o3 hR6 hb6 kw6 htk
        go_wp2_with (at_builtin; refine wpL_appT 32 rfl _ _ rfl _ w6 (by exact hr6) ?_)
        go_roundw
        case rel => exact ⟨k + 1, by omega, by rw [show 2 + (k + 1) = i2 + 1 by omega]; go_num, H.out⟩
        case measure => simp [intOf]; omega
      · obtain rfl : k = 9 := by omega
        obtain ⟨s2, hs2⟩ : ∃ q, (O9[2]?).getD secZ = q := ⟨_, rfl⟩
        obtain ⟨J8, hJ8⟩ : ∃ q, (O9.drop 3).take 8 = q := ⟨_, rfl⟩
        have h9l : (O9.drop 2).take 9 = s2 :: J8 := by
          rw [List.drop_eq_getElem_cons (by omega), List.take_succ_cons, ← hJ8, ← hs2, List.getElem?_eq_getElem (by omega)]; rfl
        have hJl : J8.length = 8 := by rw [← hJ8]; simp; omega
        rw [h9l] at hl9
        have hln9 : (s2 :: J8).length = 9 := by simp [hJl]
        obtain ⟨y9, c9, rfl⟩ := (OwnK.isK secE_ok hl9).len
        rw [hln9] at hl9 ⊢
        obtain ⟨gl, rfl, hgll⟩ := OwnK.form hl9 (by omega)
        have hglN := OwnK.ge hl9
        obtain ⟨cur, -, -, -, hc9, -⟩ := hl9.heap
        have hKK : mStK s2 J8 (m : Int) = rpK st := by unfold rpK dK; rw [hO9, hs2, hJ8, hOl, hm]
        have hLL : mStL s2 J8 (m : Int) = rpL st := by unfold rpL dW; rw [hO9, hs2, hJ8, hOl, hm]
        have hrg := dK_range (L := O9) (by omega) (by omega)
        have hrK : dK O9 = rpK st := by unfold rpK; rw [hO9]
        rw [hrK] at hrg
        have hSt0 := fun x hi => rState9_any s2 J8 (some ⟨gl, 64, none⟩) 8 (c9 - 1) (m : Int) x hJl (by omega) hi ⟨by omega, by omega⟩
        rw [hKK, hLL] at hSt0
        have hL8 : (rpL st).length ≤ 8 := by
          rw [← hLL]
          unfold mStL
          cases mComm s2 J8 (m : Int)
          · simp
          · show (stA s2 J8).length ≤ 8
            unfold stA
            rw [stL_len]; exact stN8_le _
        have hLs : rpLs st = (if rpK st = 2 then [rpL st, clrL] else if rpK st = 3 then [clrL] else []) := rfl
        obtain ⟨K9, hK9⟩ : ∃ q, rpK st = q := ⟨_, rfl⟩
        obtain ⟨L9, hL9⟩ : ∃ q, rpL st = q := ⟨_, rfl⟩
        rw [hK9] at hSt0 hrg hLs
        rw [hL9] at hSt0 hL8 hLs
        obtain ⟨Q9, hQ9⟩ : ∃ q, L9.length = q := ⟨_, rfl⟩
        rw [hQ9] at hSt0 hL8
        have hSt : ∀ x, IsK secE x (.slice (some ⟨gl, 64, none⟩) 8 (c9 - 1)) J8 → Calls Try.prog 65 #[.agg (secA s2), .slice (some ⟨gl, 64, none⟩) 8 (c9 - 1), .int .i64 (m : Int)] x fun r w' => ∃ y c', r = .returned (.tuple #[.int .i64 K9, .slice y Q9 c']) ∧ OwnK wrE w' x.heap.size (.slice y Q9 c') L9 ∧ Below x.heap.size x w' := hSt0
        have hE0 : repE st = seqR (rd9 st) (rpLs st) := by unfold repE; rw [hdf]; rfl
        have hS0 : repS st = seqS (rd9 st) (rpLs st) := by unfold repS; rw [hdf]; rfl
        have hrN : rdN st 9 = rd9 st := rfl
        rw [hrN] at hR
        rw [hLs] at hE0 hS0
        obtain ⟨sr, hsr⟩ : ∃ q, rd9 st = q := ⟨_, rfl⟩
        have zp : sr.pend.length = st.pend.length := by rw [← hsr]; rfl
        have zw : sr.wt = st.wt := by rw [← hsr]; rfl
        have zf : sr.fl = st.fl := by rw [← hsr]; rfl
        have zl : sr.last.length = m := by rw [← hsr]; exact hm
        rw [hsr] at hR hE0 hS0
        obtain ⟨vl, vp, v1, v2, -⟩ := id hR
        obtain ⟨xl, cl, rfl⟩ := (v2.isK secE_ok).len
        obtain ⟨k0, -⟩ := v1.cells
        rw [zl] at k0
        have hrr := hl9.range secE_ok 0 s2 rfl
        rw [secE_k] at hrr
        have hrg9 := rg_of (k := 64) hrr (by rw [secE_ok.len]; rfl)
        rw [secE_arr] at hrg9
        obtain ⟨rk, rv⟩ := hrg9
        rw [Nat.zero_mul] at rk rv
        have HC9 : Hid ((1 : Int) ≤ (c9 : Int) ∧ ¬ c9 = 1 ∧ (9 : Int) ≤ (c9 : Int)) := by show _ ∧ _ ∧ _; omega
        have HRK : Hid (repK st = if repE st = 0 then K9 else 0) := by show _ = _; unfold repK; rw [hK9]
        have HE0 : Hid (repE st = seqR sr (if K9 = 2 then [L9, clrL] else if K9 = 3 then [clrL] else [])) := hE0
        have HS0 : Hid (repS st = seqS sr (if K9 = 2 then [L9, clrL] else if K9 = 3 then [clrL] else [])) := hS0
        clear hSt0 hKK hLL hLs hE0 hS0 hrK hrN v1 v2 hrr h9l hln9 hK9 hL9 hsr hs2 hJ8
        obtain ⟨V, rfl⟩ : ∃ q, q = wr := ⟨_, rfl⟩
        go_upto_region 9 with fail
        refine wp_reliesC [Fx (.slice (some ⟨gl, 0, none⟩) 9 c9), Fx (.pointer (some ⟨gl, 0, none⟩)), Fx (.agg (secA s2)), Fx (.slice (some ⟨gl, 0, none⟩) 9 c9), Fx (.slice (some ⟨gl, 64, none⟩) 8 (c9 - 1)), Fx (.pointer (some ⟨r, 0, none⟩)), Fx (.pointer (some ⟨r, 0, none⟩)), Fx (.pointer (some ⟨r, 0, none⟩)), Fx (.slice xl m cl), Fx (.int .i64 ((m : Int))), TupR V.heap.size K9 Q9 L9, TupR V.heap.size K9 Q9 L9, Fx (.int .i64 (K9)), SlR V.heap.size Q9 L9, Fx (.int .i64 (K9))] (by kernel_rfl) (by kernel_rfl) ?_ ?_ ?_
        · repeat' (first | exact all_nil | apply all_cons)
          all_goals intro v y y' hv hb
          all_goals first | exact Fx_mono _ _ _ _ hv hb | exact TupR.keep hv hb | exact SlR.keep hv hb
        · refine ⟨?_, ?_, ?_, ?_, ?_, ?_, ?_, ?_, ?_, ?_, ?_, ?_, ?_, ?_, ?_, trivial⟩
          all_goals
            intro ρ x hp ρc ρg ρf ho hd
            have o0 : ρ (.tmp 0) = .pointer (some ⟨r, 0, none⟩) := ho 0 rfl
            have o4 : ρ (.tmp 4) = .slice (some ⟨gl, 0, none⟩) 9 c9 := ho 4 rfl
            clear ho
            have kc := cell_later hp k0
            simp only [depsR, depR, slotR, Fx, List.getElem?_cons_succ, List.getElem?_cons_zero, Region.binds, forall_const] at hd
            simp only [guardR]
            go_split_ands
          · go_simp
          · go_simp
          · obtain ⟨kk1, kk2⟩ := rg_later10 hp rk rv
            go_simp
          · go_simp
          · have hq := HC9.out
            go_simp
          · go_simp
          · go_simp
          · go_simp
          · go_simp
          · go_simp
          · go_simp
            refine (hSt x (isK_tail10 (OwnK.keep hl9 hp) hJl)).mono ?_
            rintro e x' ⟨y8, c8, rfl, ho8, hw⟩
            exact ⟨_, rfl, ⟨y8, c8, rfl, OwnK.le ho8 hp.size⟩, hw⟩
          · obtain ⟨y8, c8, hv8, ho8⟩ : TupR V.heap.size K9 Q9 L9 (ρ (.tmp 39)) x := by first | exact hd | exact hd.1 | assumption
            go_simp
            exact ⟨y8, c8, rfl, ho8⟩
          · obtain ⟨y8, c8, hv8, ho8⟩ : TupR V.heap.size K9 Q9 L9 (ρ (.tmp 28)) x := by first | exact hd | exact hd.1 | assumption
            go_simp
          · obtain ⟨y8, c8, hv8, ho8⟩ : TupR V.heap.size K9 Q9 L9 (ρ (.tmp 28)) x := by first | exact hd | exact hd.1 | assumption
            go_simp
            exact ⟨y8, c8, rfl, ho8⟩
          · go_simp
        · intro vs x1 hp hw
          simp only [owed, Fx] at hw
          obtain ⟨e0, e1, e2, e3, e4, e5, e6, e7, e8, e9, ⟨y10, c10, e10, -⟩, ⟨y11, c11, e11, -⟩, e12, ⟨y13, c13, e13, ho13⟩, e14, -⟩ := hw
          simp only [List.length_cons, List.length_nil, List.take_succ_cons, List.take_zero, List.drop_succ_cons, List.drop_zero, asg, List.cons_append, List.nil_append, e0, e1, e2, e3, e4, e5, e6, e7, e8, e9, e10, e11, e12, e13, e14]
          clear e0 e1 e2 e3 e4 e5 e6 e7 e8 e9 e10 e11 e12 e13 e14
          have hRx := hR.later hp
          have kwx := kw.trans (Keep.of_below hp)
          have hFV : ∀ q ∈ F, q < V.heap.size := fun q hq => (hR.lt q hq).2
          clear hR kw hl9 hp rk rv k0 hSt
          go_upto_region 11 with fail
          rcases hrg with rfl | rfl | rfl
          · have HE : Hid (repE st = 0 ∧ repK st = 1) := by
              have h1 : repE st = 0 := by rw [HE0.out]; rfl
              exact ⟨h1, by rw [HRK.out, if_pos h1]⟩
            have HP : Hid (RefPost w B r F (repS st) x1) := by
              show RefPost _ _ _ _ _ _
              rw [HS0.out]
              exact ⟨F, hRx, fun q hq => .inl hq, kwx⟩
            clear hRx kwx ho13
            go_wp2_with fail
            exact tmp2_bodyPost9 2 3 rfl rfl ⟨by rw [HE.out.1, HE.out.2]; rfl, HP.out⟩
          · have hx13 : ∀ a, y13 = some a → a.block ∉ F := fun a ha hm => by
              subst ha
              have h0 : 0 < L9.length ∨ L9.length = 0 := by omega
              have h1 := (World.ownsRow.lt ho13 a.block rfl).1
              have h2 := hFV _ hm
              omega
            have hq1 := rput10_any L9 y13 Q9 c13 x1 B r sr F hQ9 (by omega) (OwnK.isK wrE_ok ho13) (fun _ => hx13) hRx (by omega) (by omega) (by omega)
            obtain ⟨e1, he1⟩ : ∃ q, jpR sr L9 = q := ⟨_, rfl⟩
            obtain ⟨s1, hs1⟩ : ∃ q, jpS sr L9 = q := ⟨_, rfl⟩
            rw [he1, hs1] at hq1
            have z1 := jp_sm L9 sr
            rw [hs1] at z1
            have y1 := jp_zero L9 sr
            rw [he1, hs1] at y1
            have hE2 := HE0.out
            have hS2 := HS0.out
            simp only [if_true, seqR, seqS, he1, hs1] at hE2 hS2
            go_wp2_with fail
            go_at_call 63
            refine hq1.mono ?_
            rintro e w2 ⟨rfl, F2, a1, a2, a3⟩
            have kw2 : Keep F w w2 := (RefPost.trans (F1 := F) (fun q hq => .inl hq) kwx ⟨F2, a1, a2, a3⟩).elim fun _ q => q.2.2
            have kf2 : ∀ q ∈ F2, q ∈ F ∨ w.heap.size ≤ q := fun q hq => by
              rcases a2 q hq with hq | hq
              · exact .inl hq
              · right; have := kwx.size; omega
            clear hq1 a2 a3 hRx kwx hx13 ho13
            by_cases c1 : e1 = 0
            · subst c1
              simp only [if_true] at hE2 hS2
              have hq2 := rclr10_any w2 B r s1 F2 a1 (by omega) (by omega) (by omega)
              obtain ⟨e2, he2⟩ : ∃ q, jpR s1 clrL = q := ⟨_, rfl⟩
              obtain ⟨s2', hs2'⟩ : ∃ q, jpS s1 clrL = q := ⟨_, rfl⟩
              rw [he2, hs2'] at hq2
              rw [he2] at hE2 hS2
              rw [hs2'] at hS2
              have HE2 : Hid (repE st = e2) := by show _ = _; rw [hE2]; split <;> omega
              have HS2 : Hid (repS st = s2') := by show _ = _; rw [hS2]; split <;> rfl
              clear hE2 hS2
              go_wp2_with fail
              go_at_call 45
              refine hq2.mono ?_
              rintro e w3 ⟨rfl, hP⟩
              have HP : Hid (RefPost w B r F (repS st) w3) := by
                show RefPost _ _ _ _ _ _
                rw [HS2.out]
                exact RefPost.trans kf2 kw2 hP
              clear hq2 hP kf2 kw2 a1
              by_cases c2 : e2 = 0
              · subst c2
                have HK : Hid (repK st = 2) := by show _ = _; rw [HRK.out, if_pos HE2.out]
                go_wp2_with fail
                exact tmp2_bodyPost9 2 3 rfl rfl ⟨by rw [HE2.out, HK.out]; rfl, HP.out⟩
              · have HK : Hid (repK st = 0) := by show _ = _; rw [HRK.out, if_neg (by rw [HE2.out]; exact c2)]
                go_wp2_with fail
                exact tmp2_bodyPost9 2 3 rfl rfl ⟨by rw [HE2.out, HK.out]; rfl, HP.out⟩
            · simp only [c1, if_false] at hE2 hS2
              have HE2 : Hid (repE st = e1) := hE2
              have HK : Hid (repK st = 0) := by show _ = _; rw [HRK.out, if_neg (by rw [HE2.out]; exact c1)]
              have HP : Hid (RefPost w B r F (repS st) w2) := by
                show RefPost _ _ _ _ _ _
                rw [hS2]
                exact ⟨F2, a1, kf2, kw2⟩
              clear hE2 hS2 a1 kf2 kw2
              go_wp2_with fail
              exact tmp2_bodyPost9 2 3 rfl rfl ⟨by rw [HE2.out, HK.out]; rfl, HP.out⟩
          · have hq2 := rclr10_any x1 B r sr F hRx (by omega) (by omega) (by omega)
            obtain ⟨e2, he2⟩ : ∃ q, jpR sr clrL = q := ⟨_, rfl⟩
            obtain ⟨s2', hs2'⟩ : ∃ q, jpS sr clrL = q := ⟨_, rfl⟩
            rw [he2, hs2'] at hq2
            have hE2 := HE0.out
            have hS2 := HS0.out
            rw [if_neg (by omega), if_pos rfl] at hE2 hS2
            simp only [seqR, seqS, he2, hs2'] at hE2 hS2
            have HE2 : Hid (repE st = e2) := by show _ = _; rw [hE2]; split <;> omega
            have HS2 : Hid (repS st = s2') := by show _ = _; rw [hS2]; split <;> rfl
            clear hE2 hS2
            go_wp2_with fail
            go_at_call 45
            refine hq2.mono ?_
            rintro e w3 ⟨rfl, hP⟩
            have HP : Hid (RefPost w B r F (repS st) w3) := by
              show RefPost _ _ _ _ _ _
              rw [HS2.out]
              exact RefPost.trans (fun q hq => .inl hq) kwx hP
            clear hq2 hP kwx hRx ho13
            by_cases c2 : e2 = 0
            · subst c2
              have HK : Hid (repK st = 3) := by show _ = _; rw [HRK.out, if_pos HE2.out]
              go_wp2_with fail
              exact tmp2_bodyPost9 2 3 rfl rfl ⟨by rw [HE2.out, HK.out]; rfl, HP.out⟩
            · have HK : Hid (repK st = 0) := by show _ = _; rw [HRK.out, if_neg (by rw [HE2.out]; exact c2)]
              go_wp2_with fail
              exact tmp2_bodyPost9 2 3 rfl rfl ⟨by rw [HE2.out, HK.out]; rfl, HP.out⟩
end Go.Proofs.Ytpckdkgbeemalaa
