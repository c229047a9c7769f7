import Derived.Test.YtddmmmfpdmejbaaGreatDoorQJzp
import Derived.Test.YtddmmmfpdmejbaaGreatDoorQJdg
import Derived.Lib.AppendIntMem
import Derived.Test.YtddmmmfpdmejbaaGreatDoorQJzm
namespace Go.Proofs.YtddmmmfpdmejbaaGreatDoor
open Go.RowKit

/-! fault; what writing a value owes -/
theorem entersF15a : ∀ args w, (callFunc 46 args).run Tryz.prog w = .ok (.enter 46 args) w := enters_of Tryz.func46 (by kernel_rfl) rfl
theorem entersF15b : ∀ args w, (callFunc 47 args).run Tryz.prog w = .ok (.enter 47 args) w := enters_of Tryz.func47 (by kernel_rfl) rfl
theorem entersF15c : ∀ args w, (callFunc 48 args).run Tryz.prog w = .ok (.enter 48 args) w := enters_of Tryz.func48 (by kernel_rfl) rfl
set_option linter.unusedSimpArgs false in
set_option maxRecDepth 100000 in
set_option maxHeartbeats 4000000 in
theorem fault15_any (d : Nd) (F : Nat → Prop) (v : Value) (w : World) (hv : VlG w F v d) (hsz : szN d ≤ 1099511627776) (hd : depN d ≤ 60000) : Calls Tryz.prog 26 #[v] w fun e w' => e = .returned (.int .i64 (prtE d)) ∧ Below w.heap.size w w' := by
  obtain ⟨E, hE⟩ : ∃ q, prtE d = q := ⟨_, rfl⟩
  have HE : Hid (prtE d = E) := hE
  rw [hE]
  clear hE
  have h1 := deeper15_any d w F v 65536 hv (by omega)
  rw [decide_eq_false (by omega)] at h1
  have h1' : Calls Tryz.prog 33 #[v, .int .i64 65536] w fun e w' => e = .returned (.bool false) ∧ Below w.heap.size w w' := h1
  clear h1
  go_enter Tryz.func26, Tryz.ntmps26
  go_wp2_with fail
  refine h1'.mono ?_
  rintro e w1 ⟨rfl, hb1⟩
  clear h1'
  have h2 := holds15_any _ fmlP entersF15a isFormless15_any d w1 F v (hv.kept hb1) hsz
  rw [any_frm] at h2
  obtain ⟨A, hA⟩ : ∃ q, frmN d = q := ⟨_, rfl⟩
  have HA : Hid (frmN d = A) := hA
  rw [hA] at h2
  clear hA
  go_wp2_with fail
  refine h2.mono ?_
  rintro e w2 ⟨rfl, hb2⟩
  clear h2
  have hB2 := hb1.trans (hb2.mono hb1.size)
  cases A with
  | false =>
    obtain rfl : E = 11 := by rw [← HE.out]; unfold prtE; rw [if_pos HA.out]
    simp only [Bool.not_false]
    go_wp2
    go_ret
    exact ⟨rfl, hB2⟩
  | true =>
    have h3 := holds15_any _ strP entersF15b hasStrays15_any d w2 F v (hv.kept hB2) hsz
    rw [any_pln] at h3
    obtain ⟨C, hC⟩ : ∃ q, plnN d = q := ⟨_, rfl⟩
    have HC : Hid (plnN d = C) := hC
    rw [hC] at h3
    clear hC
    simp only [Bool.not_true]
    go_wp2_with fail
    refine h3.mono ?_
    rintro e w3 ⟨rfl, hb3⟩
    clear h3
    have hB3 := hB2.trans (hb3.mono hB2.size)
    cases C with
    | false =>
      obtain rfl : E = 30 := by rw [← HE.out]; unfold prtE; rw [if_neg (by rw [HA.out]; decide), if_pos HC.out]
      simp only [Bool.not_false]
      go_wp2
      go_ret
      exact ⟨rfl, hB3⟩
    | true =>
      have h4 := holds15_any _ dupP entersF15c hasTwins15_any d w3 F v (hv.kept hB3) hsz
      rw [any_twc] at h4
      obtain ⟨D, hD⟩ : ∃ q, twcN d = q := ⟨_, rfl⟩
      have HD : Hid (twcN d = D) := hD
      rw [hD] at h4
      clear hD
      simp only [Bool.not_true]
      go_wp2_with fail
      refine h4.mono ?_
      rintro e w4 ⟨rfl, hb4⟩
      clear h4
      have hB4 := hB3.trans (hb4.mono hB3.size)
      cases D with
      | true =>
        obtain rfl : E = 33 := by rw [← HE.out]; unfold prtE; rw [if_neg (by rw [HA.out]; decide), if_neg (by rw [HC.out]; decide), if_pos HD.out]
        go_wp2
        go_ret
        exact ⟨rfl, hB4⟩
      | false =>
        have h5 := deeper15_any d w4 F v 6 (hv.kept hB4) (by omega)
        have HE2 : Hid (E = if 6 < depN d then 32 else 0) := by show _ = _; rw [← HE.out]; unfold prtE; rw [if_neg (by rw [HA.out]; decide), if_neg (by rw [HC.out]; decide), if_neg (by rw [HD.out]; decide)]
        obtain ⟨G, hG⟩ : ∃ q, decide (6 < depN d) = q := ⟨_, rfl⟩
        have HG : Hid (decide (6 < depN d) = G) := hG
        rw [hG] at h5
        have h5' : Calls Tryz.prog 33 #[v, .int .i64 6] w4 fun e w' => e = .returned (.bool G) ∧ Below w4.heap.size w4 w' := h5
        clear hG h5
        go_wp2_with fail
        refine h5'.mono ?_
        rintro e w5 ⟨rfl, hb5⟩
        clear h5'
        have hB5 := hB4.trans (hb5.mono hB4.size)
        cases G with
        | true =>
          obtain rfl : E = 32 := by rw [HE2.out, if_pos (of_decide_eq_true HG.out)]
          go_wp2
          go_ret
          exact ⟨rfl, hB5⟩
        | false =>
          obtain rfl : E = 0 := by rw [HE2.out, if_neg (of_decide_eq_false HG.out)]
          go_wp2
          go_ret
          exact ⟨rfl, hB5⟩
/-! Numbers, truths -/
theorem dig_dec : ∀ (f n : Nat), n < 10 ^ f → 1 ≤ f → digF f n = Lib.decDigits n
  | 0, n, _, h => absurd h (by omega)
  | f + 1, n, hn, _ => by
    rw [digF, Lib.decDigits]
    by_cases h : n < 10
    · rw [if_pos h, dif_pos h]; rfl
    · rw [if_neg h, dif_neg h]
      have hf : 1 ≤ f := by
        rcases Nat.eq_zero_or_pos f with rfl | hf
        · simp at hn; omega
        · exact hf
      rw [dig_dec f (n / 10) (by rw [Nat.pow_succ] at hn; omega) hf]
      rfl
theorem itoa_dig (n : Int) (h0 : 0 ≤ n) (h1 : n ≤ 9223372036854775807) : Lib.itoa n = digN n := by
  unfold Lib.itoa digN
  rw [if_neg (by omega), dig_dec 20 n.toNat (by omega) (by omega)]
/-- What is asked of the library's variables. -/
def VJ (w : World) : Prop := Vx w ∧ Lib.TabIs Tryz.prog w "internal/strconv.uint64pow10" .u64 Lib.pow10Tab
theorem VJ.keep {w W : World} (h : VJ w) (hb : Below w.heap.size w W) : VJ W := ⟨h.1.below hb, Lib.tabBelow_of_tabIs h.2 W hb⟩
theorem itoa15_any (n : Int) (w : World) (h0 : 0 ≤ n) (h1 : n ≤ 9223372036854775807) (hV : VJ w) : Calls Tryz.prog 51 #[.int .i64 n] w fun e w' => e = .returned (.string ⟨(digN n).toArray⟩) ∧ Below w.heap.size w w' := by
  refine (Any.strconv_Itoa layIt n (by omega) h1 w hV.2).mono ?_
  rintro e w' ⟨rfl, k, os, rfl⟩
  rw [itoa_dig n h0 h1]
  exact ⟨rfl, Lib.below_grow _ _ (Nat.le_refl _) _ _⟩
end Go.Proofs.YtddmmmfpdmejbaaGreatDoor
namespace Go.Proofs.YtddmmmfpdmejbaaGreatDoor
open Go.RowKit

/-! Writing a value -/
theorem VlG.low {w : World} {F : Nat → Prop} {v : Value} {d : Nd} (h : VlG w F v d) : VlG w (· < w.heap.size) v d := by
  induction h using VlG.rc with
  | nil k hk => exact .nil k hk
  | null => exact .null
  | bool b => exact .bool b
  | num n hn => exact .num n hn
  | str s => exact .str s
  | list a us ds hv hF hl hz he ih => exact .list a us ds hv (IsG.low hv) hl hz ih
  | obj ks a kb us ds hk hkF hv hF hl hz he ih => exact .obj ks a kb us ds hk (IsG.low hk) hv (IsG.low hv) hl hz ih
theorem VlG.mono {w : World} {F G : Nat → Prop} {v : Value} {d : Nd} (h : VlG w F v d) (hFG : ∀ b, F b → G b) : VlG w G v d := by
  induction h using VlG.rc with
  | nil k hk => exact .nil k hk
  | null => exact .null
  | bool b => exact .bool b
  | num n hn => exact .num n hn
  | str s => exact .str s
  | list a us ds hv hF hl hz he ih => exact .list a us ds hv (hF.mono hFG) hl hz ih
  | obj ks a kb us ds hk hkF hv hF hl hz he ih => exact .obj ks a kb us ds hk (hkF.mono hFG) hv (hF.mono hFG) hl hz ih
theorem VlG.keepB {w w1 : World} {B : Nat} {v : Value} {d : Nd} (h : VlG w (· < B) v d) (hb : Below B w w1) : VlG w1 (· < B) v d := h.ag fun q hq _ => hb.block q hq
theorem isG_keepB {w w1 : World} {B : Nat} {a : Sl} {us : List Value} (h : IsG w a.v us) (hF : a.In (· < B)) (hb : Below B w w1) : IsG w1 a.v us := h.ag hF fun q hq _ => hb.block q hq
theorem oth_below {b : Option Nat} {w w1 : World} (hb : Below w.heap.size w w1) : Lib.OthersKept 5 b w w1 := fun k _ hk _ _ => (hb.block k (Array.getElem?_eq_some_iff.1 hk).1).trans hk
theorem BdP.of_later {B b : Nat} {m : List UInt8} {w w1 w2 : World} (hb : Below w.heap.size w w1) (hB : B ≤ w.heap.size) (h : BdP B b m w1 w2) : BdP B b m w w2 := ⟨h.1, (hb.mono hB).trans h.2.1, (oth_below hb).trans h.2.2⟩
theorem BdP.here {B b : Nat} {m : List UInt8} {w : World} (h : Bd B b m w) : BdP B b m w w := ⟨h, Below.refl _ _, Lib.OthersKept.refl _ _ _⟩
/-- What is left: the text is written. -/
def WrP (B b : Nat) (l : List UInt8) (w : World) (e : Ending) (w' : World) : Prop := e = .returned (.tuple #[]) ∧ BdP B b l w w'
set_option linter.unusedSimpArgs false in
set_option maxRecDepth 100000 in
theorem writeText15_any (B b : Nat) (acc : List UInt8) (s : ByteArray) (w : World) (h : Bd B b acc w) (hB : B ≤ w.heap.size) (hs : s.size ≤ 1099511627776) (hl : acc.length ≤ 70368744177664) :
    Calls Tryz.prog 52 #[.pointer (some ⟨b, 0, none⟩), .string s] w fun e w' => WrP B b (acc ++ quS (lS s)) w e w' := by
  have hQ := lexOk.quo s w (by omega)
  have hql := quS_len15 (lS s)
  rw [lS_len] at hql
  obtain ⟨q, hq⟩ : ∃ q, quS (lS s) = q := ⟨_, rfl⟩
  obtain ⟨E, hE⟩ : ∃ q, quE (lS s) = q := ⟨_, rfl⟩
  unfold QuP at hQ
  rw [hq, hE] at hQ
  rw [hq] at hql ⊢
  clear hq hE
  obtain ⟨R, hR⟩ : ∃ z, acc ++ q = z := ⟨_, rfl⟩
  go_enter Tryz.func52, Tryz.ntmps52
  go_wp2_with fail
  refine hQ.mono ?_
  rintro e w1 ⟨rfl, hb1⟩
  clear hQ
  have hW := bdWS B b acc q ⟨q.toArray⟩ (lS_mk q) w1 (h.later hb1) (by omega) (Nat.le_trans hB hb1.size)
  rw [hR] at hW
  obtain ⟨qn, hqn⟩ : ∃ z, (q.length : Int) = z := ⟨_, rfl⟩
  rw [hqn] at hW
  clear hqn
  have HRR : Hid (acc ++ q = R) := hR
  clear hR
  go_wp2_with fail
  refine hW.mono ?_
  rintro e w2 ⟨rfl, h2⟩
  clear hW
  have h3 := BdP.of_later hb1 hB h2
  clear h2
  go_wp2
  go_end0
  rw [HRR.out]
  exact ⟨rfl, h3⟩
set_option linter.unusedSimpArgs false in
set_option maxRecDepth 100000 in
theorem writeComma15_any (B b : Nat) (acc : List UInt8) (i : Nat) (w : World) (h : Bd B b acc w) (hB : B ≤ w.heap.size) (hl : acc.length ≤ 70368744177664) :
    Calls Tryz.prog 80 #[.pointer (some ⟨b, 0, none⟩), .int .i64 (i : Int)] w fun e w' => WrP B b (acc ++ (bif decide (i = 0) then [] else [44])) w e w' := by
  by_cases h0 : i = 0
  · subst h0
    rw [decide_eq_true rfl, cond_true, List.append_nil]
    go_enter Tryz.func80, Tryz.ntmps80
    go_wp2
    go_end0
    exact ⟨rfl, BdP.here h⟩
  · rw [decide_eq_false h0, cond_false]
    have hW : Calls Tryz.prog 79 #[.pointer (some ⟨b, 0, none⟩), .int .u8 44] w fun e w' => e = .returned .nilIface ∧ BdP B b (acc ++ [44]) w w' := bdWB B b acc 44 w h (by omega) hB
    have i0 : (0 : Int) < (i : Int) := by omega
    clear h0
    go_enter Tryz.func80, Tryz.ntmps80
    go_wp2_with fail
    refine hW.mono ?_
    rintro e w1 ⟨rfl, h1⟩
    clear hW
    go_wp2
    go_end0
    exact ⟨rfl, h1⟩
theorem take_emp {α : Type} {vs : List α} {j : Nat} (h : j < vs.length) : ((vs.take j).isEmpty && true) = decide (j = 0) := by
  rw [Bool.and_true]
  cases vs with
  | nil => simp at h
  | cons a r =>
    cases j with
    | zero => rfl
    | succ j => rfl
theorem szL_snoc (d : Nd) : ∀ a : List Nd, szL (a ++ [d]) = szL a + szN d
  | [] => by rw [List.nil_append, szL, szL, szL]; omega
  | x :: r => by rw [List.cons_append, szL, szL, szL_snoc d r]; omega
/-- What writing a value owes. -/
def WrOk (d : Nd) : Prop := ∀ (B b : Nat) (acc : List UInt8) (w : World) (v : Value), Bd B b acc w → B ≤ w.heap.size → VlG w (· < B) v d → frmN d = true → szN d ≤ 1099511627776 → acc.length + 12 * szN d ≤ 35184372088832 → (∀ x, Below B w x → VJ x) → Calls Tryz.prog 27 #[.pointer (some ⟨b, 0, none⟩), v] w fun e w' => WrP B b (acc ++ txtN d) w e w'
set_option linter.unusedSimpArgs false in
set_option maxRecDepth 100000 in
set_option maxHeartbeats 4000000 in
theorem writeList15_any (vs : List Nd) (ih : ∀ d ∈ vs, WrOk d) (B b : Nat) (acc : List UInt8) (w : World) (a : Sl) (us : List Value) (h : Bd B b acc w) (hB : B ≤ w.heap.size) (hv : IsG w a.v us) (hF : a.In (· < B)) (hl : us.length = vs.length) (hz : a.n ≤ 1759218604441) (he : ∀ (i : Nat) u d, us[i]? = some u → vs[i]? = some d → VlG w (· < B) u d) (hfr : frmL vs = true) (hsz : szL vs ≤ 1099511627776) (hal : acc.length + 12 * szL vs + 400 ≤ 35184372088832) (hV : ∀ x, Below B w x → VJ x) :
    Calls Tryz.prog 53 #[.pointer (some ⟨b, 0, none⟩), a.v] w fun e w' => WrP B b (acc ++ 91 :: (txtL vs true ++ [93])) w e w' := by
  obtain ⟨ax, m, ac⟩ := a
  have hnum : m = us.length := IsG.num (a := ⟨ax, m, ac⟩) hv
  have HG : Hid (IsG w (.slice ax m ac) us ∧ (⟨ax, m, ac⟩ : Sl).In (· < B) ∧ m = us.length ∧ us.length = vs.length ∧ ∀ (i : Nat) u d, us[i]? = some u → vs[i]? = some d → VlG w (· < B) u d) := ⟨hv, hF, hnum, hl, he⟩
  have HS : Hid (∀ j, (txtL (vs.take j) true).length ≤ 6 * szL (vs.take j) ∧ szL (vs.take j) ≤ szL vs) := fun j => ⟨txtL_len _ _ (fun d _ => txtN_len d), szL_take vs j⟩
  have HV : Hid (∀ x, Below B w x → VJ x) := hV
  have HFR : Hid (frmL vs = true ∧ szL vs ≤ 1099511627776 ∧ acc.length + 12 * szL vs + 400 ≤ 35184372088832 ∧ B ≤ w.heap.size) := ⟨hfr, hsz, hal, hB⟩
  have hmz : m ≤ 1759218604441 := hz
  have hW : Calls Tryz.prog 79 #[.pointer (some ⟨b, 0, none⟩), .int .u8 91] w fun e w' => e = .returned .nilIface ∧ BdP B b (acc ++ [91]) w w' := bdWB B b acc 91 w h (by omega) hB
  obtain ⟨RR, hRR⟩ : ∃ q, acc ++ 91 :: (txtL vs true ++ [93]) = q := ⟨_, rfl⟩
  have HRR : Hid (acc ++ 91 :: (txtL vs true ++ [93]) = RR) := hRR
  rw [hRR]
  simp only [Sl.v]
  clear hRR hv hF hnum hl he hV hfr hsz hal hz h
  go_enter Tryz.func53, Tryz.ntmps53
  go_wp2_with fail
  refine hW.mono ?_
  rintro e w1 ⟨rfl, h1⟩
  clear hW
  go_wp2_with fail
  go_loopw [10] (fun iv wr => ∃ j : Nat, j ≤ m ∧ iv = .int .i64 j ∧ BdP B b (acc ++ 91 :: txtL (vs.take j) true) w wr) (fun iv _ => m - (intOf iv).toNat)
  case atStart => exact ⟨0, Nat.zero_le _, rfl, h1⟩
  case round =>
    clear h1
    obtain ⟨j, hj, rfl, hBI⟩ := hrel
    have hBl := hBI.2.1
    have hI := hBI.1
    obtain ⟨hfr, hsz, hal, hB⟩ := HFR.out
    have hBr : B ≤ wr.heap.size := Nat.le_trans hB hBl.size
    obtain ⟨s1, s2⟩ := HS.out j
    have hlen : (acc ++ 91 :: txtL (vs.take j) true).length ≤ acc.length + 6 * szL (vs.take j) + 1 := by simp; omega
    by_cases hlt : j < m
    · have i1 : (j : Int) < (m : Int) := by omega
      have i0 : (0 : Int) ≤ (j : Int) := by omega
      obtain ⟨hG, hF, hnum, hl, he⟩ := HG.out
      obtain ⟨u, hu⟩ : ∃ q, us[j]? = some q := ⟨_, List.getElem?_eq_getElem (by omega)⟩
      obtain ⟨dd, hdd⟩ : ∃ q, vs[j]? = some q := ⟨_, List.getElem?_eq_getElem (by omega)⟩
      have hGr := isG_keepB (a := ⟨ax, m, ac⟩) hG hF hBl
      obtain ⟨bb, pp, rfl, -, cu⟩ := IsG.spot hGr j (by omega)
      have q1 := cu j u hu
      have hvl := (he j u dd hu hdd).keepB hBl
      have hC := writeComma15_any B b _ j wr hI hBr (by omega)
      have hwr : IntKind.i64.wrap ((j : Int) + 1) = (j : Int) + 1 := by rw [IntKind.wrap_i64]; omega
      have hsn : szL (vs.take (j + 1)) = szL (vs.take j) + szN dd := by
        rw [List.take_add_one, hdd]
        exact szL_snoc dd _
      obtain ⟨t1, t2⟩ := HS.out (j + 1)
      have HT : Hid ((acc ++ 91 :: txtL (vs.take j) true ++ (bif decide (j = 0) then [] else [44])) ++ txtN dd = acc ++ 91 :: txtL (vs.take (j + 1)) true) := by
        show _ = _
        rw [List.take_add_one, hdd]
        simp only [Option.toList_some]
        rw [txtL_snoc]
        have e9 := take_emp (vs := vs) (j := j) (by omega)
        rw [e9]
        simp
      have hz9 := szL_at vs j dd hdd
      have hfd := frmL_at vs j dd hdd hfr
      have hih := ih dd (List.mem_of_getElem? hdd)
      have hlc : ((acc ++ 91 :: txtL (vs.take j) true) ++ (bif decide (j = 0) then [] else [44])).length ≤ acc.length + 6 * szL (vs.take j) + 2 := by
        rw [List.length_append]
        cases decide (j = 0) <;> simp at hlen ⊢ <;> omega
      generalize (acc ++ 91 :: txtL (vs.take j) true) ++ (bif decide (j = 0) then [] else [44]) = X1 at *
      generalize acc ++ 91 :: txtL (vs.take j) true = X0 at *
      clear hu hdd hG hF hnum hl he cu
      go_upto_region 4 with fail
      go_wp2_with fail
      refine hC.mono ?_
      rintro e w2 ⟨rfl, h2⟩
      clear hC q1
      have hb2 := h2.2.1
      have hB2 := hBl.trans hb2
      have hP2 := hBI.trans h2
      have hC2 := hih B b X1 w2 u h2.1 (Nat.le_trans hBr hb2.size) (hvl.keepB hb2) hfd (by omega) (by omega) (fun x hx => HV.out x (hB2.trans hx))
      rw [HT.out] at hC2
      go_wp2_with fail
      refine hC2.mono ?_
      rintro e w3 ⟨rfl, h3⟩
      have hP3 := hP2.trans h3
      clear hC2 h2 h3 hP2 hBI hB2 hb2 hBl hvl hih
      go_wp2
      go_roundw
      case rel => first | exact ⟨j + 1, by omega, by go_num, hP3⟩ | ((repeat apply Exists.intro); refine ⟨⟨j + 1, by omega, ?_, hP3⟩, rfl⟩; go_num)
      case measure => simp [intOf]; omega
    · obtain rfl : j = m := by omega
      have i1 : ¬ (j : Int) < (j : Int) := by omega
      have hW : Calls Tryz.prog 79 #[.pointer (some ⟨b, 0, none⟩), .int .u8 93] wr fun e w' => e = .returned .nilIface ∧ BdP B b ((acc ++ 91 :: txtL (vs.take j) true) ++ [93]) wr w' := bdWB B b _ 93 wr hI (by omega) hBr
      have hRR : (acc ++ 91 :: txtL (vs.take j) true) ++ [93] = RR := by
        obtain ⟨hG, hF, hnum, hl, he⟩ := HG.out
        rw [List.take_of_length_le (by omega), ← HRR.out]
        simp
      rw [hRR] at hW
      clear hRR
      go_wp2_with fail
      refine hW.mono ?_
      rintro e w2 ⟨rfl, h2⟩
      clear hW
      have hP2 := hBI.trans h2
      clear h2
      go_wp2
      go_end0
      exact ⟨rfl, hP2⟩
end Go.Proofs.YtddmmmfpdmejbaaGreatDoor
namespace Go.Proofs.YtddmmmfpdmejbaaGreatDoor
open Go.RowKit

/-! Writing an object; a value -/
set_option linter.unusedSimpArgs false in
set_option maxRecDepth 100000 in
set_option maxHeartbeats 8000000 in
theorem writeObj15_any (vs : List Nd) (ih : ∀ d ∈ vs, WrOk d) (B b : Nat) (acc : List UInt8) (w : World) (ks a : Sl) (kb : List ByteArray) (us : List Value) (h : Bd B b acc w) (hB : B ≤ w.heap.size) (hk : IsG w ks.v (strs kb)) (hkF : ks.In (· < B)) (hv : IsG w a.v us) (hF : a.In (· < B)) (hl : us.length = vs.length) (hkl : kb.length = vs.length) (hz : ks.n ≤ 8796093022208) (he : ∀ (i : Nat) u d, us[i]? = some u → vs[i]? = some d → VlG w (· < B) u d) (hfr : frmL vs = true) (hsz : ((kb.map lS).map (fun t => t.length + 16)).sum + szL vs ≤ 1099511627776) (hal : acc.length + 12 * (((kb.map lS).map (fun t => t.length + 16)).sum + szL vs) + 400 ≤ 35184372088832) (hV : ∀ x, Below B w x → VJ x) :
    Calls Tryz.prog 54 #[.pointer (some ⟨b, 0, none⟩), .agg #[ks.v, a.v]] w fun e w' => WrP B b (acc ++ 123 :: (txtO (kb.map lS) vs true ++ [125])) w e w' := by
  obtain ⟨ax, an, ac⟩ := a
  obtain ⟨kx, m, kc⟩ := ks
  have hmk : m = kb.length := by have h9 : m = (strs kb).length := IsG.num (a := ⟨kx, m, kc⟩) hk; rw [h9]; simp [strs]
  have han : an = us.length := IsG.num (a := ⟨ax, an, ac⟩) hv
  have bA := below_alloc w (.cells #[.slice kx m kc, .slice ax an ac] 70)
  have hAB := bA.mono hB
  obtain ⟨g0, hg0⟩ : ∃ q, w.heap.size = q := ⟨_, rfl⟩
  have hrow : (w.alloc (.cells #[.slice kx m kc, .slice ax an ac] 70)).heap[g0]? = some (.cells #[.slice kx m kc, .slice ax an ac] 70 (0, 0)) := by rw [← hg0]; exact heap_alloc_last _ _
  have hgb : g0 ≠ b := by have := h.lt; omega
  obtain ⟨KS, hKS⟩ : ∃ q, ((kb.map lS).map (fun t => t.length + 16)).sum = q := ⟨_, rfl⟩
  have HG : Hid (IsG w (.slice kx m kc) (strs kb) ∧ (⟨kx, m, kc⟩ : Sl).In (· < B) ∧ IsG w (.slice ax an ac) us ∧ (⟨ax, an, ac⟩ : Sl).In (· < B) ∧ m = kb.length ∧ an = us.length ∧ us.length = vs.length ∧ kb.length = vs.length ∧ ∀ (i : Nat) u d, us[i]? = some u → vs[i]? = some d → VlG w (· < B) u d) := ⟨hk, hkF, hv, hF, hmk, han, hl, hkl, he⟩
  have HS : Hid (∀ j, (txtO (kb.map lS) (vs.take j) true).length ≤ 6 * (KS + szL (vs.take j)) ∧ szL (vs.take j) ≤ szL vs) := fun j => ⟨by have h9 := txtO_len (vs.take j) (kb.map lS) true (fun d _ => txtN_len d); rw [hKS] at h9; exact h9, szL_take vs j⟩
  have HKM : Hid (∀ t ∈ kb, t.size ≤ KS) := fun t ht => by have h9 := szK_mem kb t ht; rw [hKS] at h9; exact h9
  rw [hKS] at hsz hal
  have HV : Hid (∀ x, Below B (w.alloc (.cells #[.slice kx m kc, .slice ax an ac] 70)) x → VJ x) := fun x hx => hV x (hAB.trans hx)
  have HFR : Hid (frmL vs = true ∧ KS + szL vs ≤ 1099511627776 ∧ acc.length + 12 * (KS + szL vs) + 400 ≤ 35184372088832 ∧ B ≤ w.heap.size) := ⟨hfr, hsz, hal, hB⟩
  have HAB : Hid (Below w.heap.size w (w.alloc (.cells #[.slice kx m kc, .slice ax an ac] 70))) := bA
  have hmz : m ≤ 8796093022208 := hz
  have hBY : B ≤ (w.alloc (.cells #[.slice kx m kc, .slice ax an ac] 70)).heap.size := Nat.le_trans hB bA.size
  have hW : Calls Tryz.prog 79 #[.pointer (some ⟨b, 0, none⟩), .int .u8 123] (w.alloc (.cells #[.slice kx m kc, .slice ax an ac] 70)) fun e w' => e = .returned .nilIface ∧ BdP B b (acc ++ [123]) (w.alloc (.cells #[.slice kx m kc, .slice ax an ac] 70)) w' := bdWB B b acc 123 _ (h.later bA) (by omega) hBY
  obtain ⟨RR, hRR⟩ : ∃ q, acc ++ 123 :: (txtO (kb.map lS) vs true ++ [125]) = q := ⟨_, rfl⟩
  have HRR : Hid (acc ++ 123 :: (txtO (kb.map lS) vs true ++ [125]) = RR) := hRR
  rw [hRR]
  simp only [Sl.v]
  clear hRR hv hF hl he hV hfr hsz hal hz h hk hkF hmk han hkl hKS hAB bA
  go_enter Tryz.func54, Tryz.ntmps54
  go_upto_region 1 with fail
  obtain ⟨Y, hY⟩ : ∃ q, w.alloc (.cells #[.slice kx m kc, .slice ax an ac] 70) = q := ⟨_, rfl⟩
  rw [hY] at hrow HV HAB hBY hW ⊢
  have HGY : Hid (IsG Y (.slice kx m kc) (strs kb) ∧ IsG Y (.slice ax an ac) us ∧ ∀ (i : Nat) u d, us[i]? = some u → vs[i]? = some d → VlG Y (· < B) u d) := by
    obtain ⟨g1, g2, g3, g4, -, -, -, -, g9⟩ := HG.out
    exact ⟨isG_kept15 g1 HAB.out, isG_kept15 g3 HAB.out, fun i u d h1 h2 => (g9 i u d h1 h2).kept HAB.out⟩
  have HG0 : Hid (w.heap.size = g0) := hg0
  clear hY hg0
  go_wp2_with fail
  refine hW.mono ?_
  rintro e w1 ⟨rfl, h1⟩
  clear hW
  have hr1 : w1.heap[g0]? = some (.cells #[.slice kx m kc, .slice ax an ac] 70 (0, 0)) := h1.2.2 g0 _ hrow (fun e => hgb (Option.some.inj e)) (fun c fz e => by cases e)
  have cz0 : w1.cell? ⟨g0, 0, none⟩ = some (.slice kx m kc) := by rw [cell_of_row _ _ _ _ _ _ hr1]; rfl
  clear hr1
  go_wp2_with fail
  clear cz0
  go_loopw [11] (fun iv wr => ∃ j : Nat, j ≤ m ∧ iv = .int .i64 j ∧ BdP B b (acc ++ 123 :: txtO (kb.map lS) (vs.take j) true) Y wr) (fun iv _ => m - (intOf iv).toNat)
  case atStart => exact ⟨0, Nat.zero_le _, rfl, h1⟩
  case round =>
    clear h1
    obtain ⟨j, hj, rfl, hBI⟩ := hrel
    obtain ⟨hfr, hsz, hal, hB⟩ := HFR.out
    have hBl := hBI.2.1
    have hBr : B ≤ wr.heap.size := Nat.le_trans hBY hBl.size
    obtain ⟨s1, s2⟩ := HS.out j
    have hlen : (acc ++ 123 :: txtO (kb.map lS) (vs.take j) true).length ≤ acc.length + 6 * (KS + szL (vs.take j)) + 1 := by simp; omega
    by_cases hlt : j < m
    · have i1 : (j : Int) < (m : Int) := by omega
      have i0 : (0 : Int) ≤ (j : Int) := by omega
      obtain ⟨-, hkF, -, hF, hmk, han, hl, hkl, -⟩ := HG.out
      obtain ⟨gK, gV, he⟩ := HGY.out
      have i2 : (j : Int) < (an : Int) := by omega
      obtain ⟨u, hu⟩ : ∃ q, us[j]? = some q := ⟨_, List.getElem?_eq_getElem (by omega)⟩
      obtain ⟨kj, hkj⟩ : ∃ q, kb[j]? = some q := ⟨_, List.getElem?_eq_getElem (by omega)⟩
      obtain ⟨dd, hdd⟩ : ∃ q, vs[j]? = some q := ⟨_, List.getElem?_eq_getElem (by omega)⟩
      have hGr := isG_keepB (a := ⟨kx, m, kc⟩) gK hkF hBl
      obtain ⟨bb, pp, rfl, -, cu⟩ := IsG.spot hGr j (by simp [strs]; omega)
      have q1 := cu j (.string kj) (by simp [strs, hkj])
      have hvl := he j u dd hu hdd
      have hC := writeComma15_any B b _ j wr hBI.1 hBr (by omega)
      have hwr : IntKind.i64.wrap ((j : Int) + 1) = (j : Int) + 1 := by rw [IntKind.wrap_i64]; omega
      have hsn : szL (vs.take (j + 1)) = szL (vs.take j) + szN dd := by
        rw [List.take_add_one, hdd]
        exact szL_snoc dd _
      obtain ⟨t1, t2⟩ := HS.out (j + 1)
      have hks : kj.size ≤ KS := HKM.out kj (List.mem_of_getElem? hkj)
      have HT : Hid ((((acc ++ 123 :: txtO (kb.map lS) (vs.take j) true ++ (bif decide (j = 0) then [] else [44])) ++ quS (lS kj)) ++ [58]) ++ txtN dd = acc ++ 123 :: txtO (kb.map lS) (vs.take (j + 1)) true) := by
        show _ = _
        rw [List.take_add_one, hdd]
        simp only [Option.toList_some]
        rw [txtO_snoc, take_emp (vs := vs) (j := j) (by omega), List.length_take, Nat.min_eq_left (by omega), List.getElem?_map, hkj]
        simp
      have hz9 := szL_at vs j dd hdd
      have hfd := frmL_at vs j dd hdd hfr
      have hih := ih dd (List.mem_of_getElem? hdd)
      have hlc : ((acc ++ 123 :: txtO (kb.map lS) (vs.take j) true) ++ (bif decide (j = 0) then [] else [44])).length ≤ acc.length + 6 * (KS + szL (vs.take j)) + 2 := by
        rw [List.length_append]
        cases decide (j = 0) <;> simp at hlen ⊢ <;> omega
      have hq9 := quS_len15 (lS kj)
      rw [lS_len] at hq9
      have HF9 : Hid ((⟨ax, an, ac⟩ : Sl).In (· < B)) := hF
      have HU : Hid (us[j]? = some u ∧ j < us.length) := ⟨hu, by omega⟩
      have HT3 : Hid (((acc ++ 123 :: txtO (kb.map lS) (vs.take (j + 1)) true)).length ≤ 35184372088832) := by show _ ≤ _; simp; omega
      generalize (acc ++ 123 :: txtO (kb.map lS) (vs.take j) true) ++ (bif decide (j = 0) then [] else [44]) = X1 at *
      generalize acc ++ 123 :: txtO (kb.map lS) (vs.take j) true = X0 at *
      clear hu hkj hdd gK hF hmk han hl hkl he cu hkF hGr
      go_upto_region 5 with fail
      go_wp2_with fail
      refine hC.mono ?_
      rintro e w2 ⟨rfl, h2⟩
      clear hC q1
      have hP2 := hBI.trans h2
      have hW2 := writeText15_any B b X1 kj w2 h2.1 (Nat.le_trans hBr h2.2.1.size) (by omega) (by omega)
      clear h2 hBI
      go_wp2_with fail
      refine hW2.mono ?_
      rintro e w3 ⟨rfl, h3⟩
      clear hW2
      have hP3 := hP2.trans h3
      have hW3 : Calls Tryz.prog 79 #[.pointer (some ⟨b, 0, none⟩), .int .u8 58] w3 fun e w' => e = .returned .nilIface ∧ BdP B b ((X1 ++ quS (lS kj)) ++ [58]) w3 w' := bdWB B b _ 58 w3 h3.1 (by rw [List.length_append]; omega) (Nat.le_trans hBY hP3.2.1.size)
      clear h3 hP2
      go_wp2_with fail
      refine hW3.mono ?_
      rintro e w4 ⟨rfl, h4⟩
      clear hW3
      have hP4 := hP3.trans h4
      clear h4 hP3
      have hr4 : w4.heap[g0]? = some (.cells #[.slice (some ⟨bb, pp, none⟩) m kc, .slice ax an ac] 70 (0, 0)) := hP4.2.2 g0 _ hrow (fun e => hgb (Option.some.inj e)) (fun c fz e => by cases e)
      have cz1 : w4.cell? ⟨g0, 1, none⟩ = some (.slice ax an ac) := by rw [cell_of_row _ _ _ _ _ _ hr4]; rfl
      have hGv := isG_keepB (a := ⟨ax, an, ac⟩) gV HF9.out hP4.2.1
      obtain ⟨bv, pv, rfl, -, cv⟩ := IsG.spot hGv j HU.out.2
      have q2 := cv j u HU.out.1
      clear cv hGv hr4 gV
      have hC2 := hih B b _ w4 u hP4.1 (Nat.le_trans hBY hP4.2.1.size) (hvl.keepB hP4.2.1) hfd (by omega) (by rw [List.length_append, List.length_append]; simp; omega) (fun x hx => HV.out x (hP4.2.1.trans hx))
      rw [HT.out] at hC2
      go_wp2_with fail
      refine hC2.mono ?_
      rintro e w5 ⟨rfl, h5⟩
      have hP5 := hP4.trans h5
      clear hC2 h5 hP4 hvl hih q2 cz1
      go_wp2
      go_roundw
      case rel => first | exact ⟨j + 1, by omega, by go_num, hP5⟩ | ((repeat apply Exists.intro); refine ⟨⟨j + 1, by omega, ?_, hP5⟩, rfl⟩; go_num)
      case measure => simp [intOf]; omega
    · obtain rfl : j = m := by omega
      have i1 : ¬ (j : Int) < (j : Int) := by omega
      have hW : Calls Tryz.prog 79 #[.pointer (some ⟨b, 0, none⟩), .int .u8 125] wr fun e w' => e = .returned .nilIface ∧ BdP B b ((acc ++ 123 :: txtO (kb.map lS) (vs.take j) true) ++ [125]) wr w' := bdWB B b _ 125 wr hBI.1 (by omega) hBr
      have hRR : (acc ++ 123 :: txtO (kb.map lS) (vs.take j) true) ++ [125] = RR := by
        obtain ⟨-, hkF, -, hF, hmk, han, hl, hkl, -⟩ := HG.out
        rw [List.take_of_length_le (by omega), ← HRR.out]
        simp
      rw [hRR] at hW
      clear hRR
      go_wp2_with fail
      refine hW.mono ?_
      rintro e w2 ⟨rfl, h2⟩
      clear hW
      have hP2 := BdP.of_later HAB.out HFR.out.2.2.2 (hBI.trans h2)
      clear h2
      go_wp2
      go_end0
      exact ⟨rfl, hP2⟩
end Go.Proofs.YtddmmmfpdmejbaaGreatDoor
namespace Go.Proofs.YtddmmmfpdmejbaaGreatDoor
open Go.RowKit

/-! write, Print -/
theorem formatBool15_any (b : Bool) (w : World) : Calls Tryz.prog 50 #[.bool b] w fun e w' => e = .returned (.string ⟨(bif b then [116, 114, 117, 101] else [102, 97, 108, 115, 101]).toArray⟩) ∧ w' = w := by
  refine (Any.strconv_FormatBool layFb b w).mono ?_
  rintro e w' ⟨rfl, rfl⟩
  refine ⟨?_, rfl⟩
  cases b <;> rfl
set_option linter.unusedSimpArgs false in
set_option maxRecDepth 100000 in
set_option maxHeartbeats 8000000 in
theorem write15_any : ∀ d, WrOk d := Nd.ind fun k n ss kk vs ih => by
  intro B b acc w v hI hB hv hfr hsz hal hV
  have hV0 := hV w (Below.refl _ _)
  cases hv using VlG.rc with
  | nil k hk => rw [frmN_mk] at hfr; rw [decide_eq_false hk] at hfr; simp at hfr
  | null =>
    have hW : ∀ x, Bd B b acc x → B ≤ x.heap.size → Calls Tryz.prog 49 #[.pointer (some ⟨b, 0, none⟩), .string ⟨#[110, 117, 108, 108]⟩] x fun e w' => e = .returned (.tuple #[.int .i64 4, .nilIface]) ∧ BdP B b (acc ++ [110, 117, 108, 108]) x w' := fun x hx hxB => bdWS B b acc [110, 117, 108, 108] ⟨#[110, 117, 108, 108]⟩ rfl x hx (by show acc.length + 4 ≤ _; omega) hxB
    have e1 : acc ++ txtN (.mk 1 0 [] [] []) = acc ++ [110, 117, 108, 108] := by rw [txtN_mk]; rfl
    rw [e1]
    go_enter Tryz.func27, Tryz.ntmps27
    have bA := below_alloc w (.cells #[] 65)
    have hW1 := hW _ (hI.later bA) (Nat.le_trans hB bA.size)
    clear hW
    go_wp2_with fail
    refine hW1.mono ?_
    rintro e w1 ⟨rfl, h1⟩
    clear hW1
    have hP := BdP.of_later bA hB h1
    clear h1
    go_wp2
    go_end0
    exact ⟨rfl, hP⟩
  | bool q =>
    have hf := formatBool15_any q w
    obtain ⟨m, hm⟩ : ∃ z : List UInt8, (bif q then [116, 114, 117, 101] else [102, 97, 108, 115, 101]) = z := ⟨_, rfl⟩
    rw [hm] at hf
    have hml : m.length ≤ 5 := by rw [← hm]; cases q <;> decide
    have e1 : acc ++ txtN (.mk 2 (bif q then 1 else 0) [] [] []) = acc ++ m := by
      rw [← hm, txtN_mk]
      cases q <;> rfl
    rw [e1]
    clear e1 hm
    have hW := bdWS B b acc m ⟨m.toArray⟩ (lS_mk m) w hI (by omega) hB
    obtain ⟨qn, hqn⟩ : ∃ z, (m.length : Int) = z := ⟨_, rfl⟩
    rw [hqn] at hW
    clear hqn
    go_enter Tryz.func27, Tryz.ntmps27
    go_wp2_with fail
    refine hf.mono ?_
    rintro e w0 ⟨rfl, rfl⟩
    clear hf
    go_wp2_with fail
    refine hW.mono ?_
    rintro e w1 ⟨rfl, h1⟩
    clear hW
    go_wp2
    go_end0
    exact ⟨rfl, h1⟩
  | num n hn =>
    have h0 : 0 ≤ n := by
      rw [frmN_mk] at hfr
      apply Classical.byContradiction
      intro h9
      rw [show decide ((3 : Int) = 3 ∧ n < 0) = true from decide_eq_true ⟨rfl, by omega⟩] at hfr
      simp at hfr
    have hf := itoa15_any n w h0 hn.2 hV0
    have e1 : acc ++ txtN (.mk 3 n [] [] []) = acc ++ digN n := by rw [txtN_mk]; rfl
    have hlen : (digN n).length ≤ 480 := by
      have h9 := txtN_len (.mk 3 n [] [] [])
      rw [show txtN (.mk 3 n [] [] []) = digN n by rw [txtN_mk]; rfl, szN_mk] at h9
      simp [szL] at h9
      omega
    rw [e1]
    generalize digN n = m at *
    clear e1
    obtain ⟨qn, hqn⟩ : ∃ z, (m.length : Int) = z := ⟨_, rfl⟩
    have HQN : Hid ((m.length : Int) = qn) := hqn
    clear hqn
    go_enter Tryz.func27, Tryz.ntmps27
    go_wp2_with fail
    refine hf.mono ?_
    rintro e w0 ⟨rfl, hb0⟩
    clear hf
    have hW := bdWS B b acc m ⟨m.toArray⟩ (lS_mk m) w0 (hI.later hb0) (by omega) (Nat.le_trans hB hb0.size)
    rw [HQN.out] at hW
    go_wp2_with fail
    refine hW.mono ?_
    rintro e w1 ⟨rfl, h1⟩
    clear hW
    have hP := BdP.of_later hb0 hB h1
    clear h1
    go_wp2
    go_end0
    exact ⟨rfl, hP⟩
  | str s =>
    have e1 : acc ++ txtN (.mk 4 0 (lS s) [] []) = acc ++ quS (lS s) := by rw [txtN_mk]; rfl
    have hz : s.size ≤ szN (.mk 4 0 (lS s) [] []) := by rw [szN_mk, lS_len]; omega
    have hW := writeText15_any B b acc s w hI hB (by omega) (by omega)
    rw [e1]
    clear e1 hz
    go_enter Tryz.func27, Tryz.ntmps27
    go_wp2_with fail
    refine hW.mono ?_
    rintro e w1 ⟨rfl, h1⟩
    clear hW
    go_wp2
    go_end0
    exact ⟨rfl, h1⟩
  | list a us ds hv hF hl hz he r9 =>
    clear r9
    have hsz2 : szL vs + 80 ≤ szN (.mk 5 0 [] [] vs) := by rw [szN_mk]; omega
    have hfr2 : frmL vs = true := by rw [frmN_mk, Bool.and_eq_true] at hfr; exact hfr.2
    have hW := writeList15_any vs ih B b acc w a us hI hB hv hF hl hz he hfr2 (by omega) (by omega) hV
    have e1 : acc ++ txtN (.mk 5 0 [] [] vs) = acc ++ 91 :: (txtL vs true ++ [93]) := by rw [txtN_mk]; rfl
    rw [e1]
    obtain ⟨ax, an, ac⟩ := a
    simp only [Sl.v] at hW ⊢
    clear e1 hsz2 hfr2 hv hF hl hz he hV0 hV
    go_enter Tryz.func27, Tryz.ntmps27
    go_wp2_with fail
    refine hW.mono ?_
    rintro e w1 ⟨rfl, h1⟩
    clear hW
    go_wp2
    go_end0
    exact ⟨rfl, h1⟩
  | obj ks a kb us ds hk hkF hv hF hl hz he r9 =>
    clear r9
    have hsz2 : ((kb.map lS).map (fun t => t.length + 16)).sum + szL vs + 80 ≤ szN (.mk 6 0 [] (kb.map lS) vs) := by rw [szN_mk]; simp
    have hfr2 : frmL vs = true := by rw [frmN_mk, Bool.and_eq_true] at hfr; exact hfr.2
    have hkl : kb.length = vs.length := by
      rw [frmN_mk] at hfr
      apply Classical.byContradiction
      intro h9
      rw [show decide ((6 : Int) = 6 ∧ (kb.map lS).length ≠ vs.length) = true from decide_eq_true ⟨rfl, by rw [List.length_map]; exact h9⟩] at hfr
      simp at hfr
    have bA := below_alloc w (.cells #[ks.v, a.v] 70)
    have hW := writeObj15_any vs ih B b acc (w.alloc (.cells #[ks.v, a.v] 70)) ks a kb us (hI.later bA) (Nat.le_trans hB bA.size) (isG_kept15 hk bA) hkF (isG_kept15 hv bA) hF hl hkl hz.1 (fun i u d h1 h2 => (he i u d h1 h2).kept bA) hfr2 (by omega) (by omega) (fun x hx => hV x ((bA.mono hB).trans hx))
    have e1 : acc ++ txtN (.mk 6 0 [] (kb.map lS) vs) = acc ++ 123 :: (txtO (kb.map lS) vs true ++ [125]) := by rw [txtN_mk]; rfl
    rw [e1]
    obtain ⟨ax, an, ac⟩ := a
    obtain ⟨kx, kn, kc⟩ := ks
    simp only [Sl.v] at hW bA ⊢
    have rA := RowC.new w #[.slice kx kn kc, .slice ax an ac] 70
    obtain ⟨g0, hg0⟩ : ∃ q, w.heap.size = q := ⟨_, rfl⟩
    rw [hg0] at rA
    have c0 : (w.alloc (.cells #[.slice kx kn kc, .slice ax an ac] 70)).cell? ⟨g0, 0, none⟩ = some (.slice kx kn kc) := rA.cell 0
    have c1 : (w.alloc (.cells #[.slice kx kn kc, .slice ax an ac] 70)).cell? ⟨g0, 1, none⟩ = some (.slice ax an ac) := rA.cell 1
    clear e1 hsz2 hfr2 hv hF hl hz he hV0 hV hk hkF rA
    go_enter Tryz.func27, Tryz.ntmps27
    go_upto_region 18 with fail
    clear hg0
    generalize w.alloc (.cells #[.slice kx kn kc, .slice ax an ac] 70) = Y at *
    go_wp2_with fail
    refine hW.mono ?_
    rintro e w1 ⟨rfl, h1⟩
    clear hW
    have hP := BdP.of_later bA hB h1
    clear h1
    go_wp2
    go_end0
    exact ⟨rfl, hP⟩
set_option linter.unusedSimpArgs false in
set_option maxRecDepth 100000 in
set_option maxHeartbeats 8000000 in
theorem print15_any (d : Nd) (F : Nat → Prop) (v : Value) (w : World) (hv : VlG w F v d) (hsz : szN d ≤ 1099511627776) (hd : depN d ≤ 60000) (hV : VJ w) : Calls Tryz.prog 9 #[v] w fun e w' => PtP d w e w' := by
  have hf := fault15_any d F v w hv hsz hd
  unfold PtP
  obtain ⟨E, hE⟩ : ∃ q, prtE d = q := ⟨_, rfl⟩
  obtain ⟨S, hS⟩ : ∃ q, prtS d = q := ⟨_, rfl⟩
  have HES : Hid (prtE d = E ∧ prtS d = S) := ⟨hE, hS⟩
  rw [hE] at hf
  rw [hE, hS]
  clear hE hS
  go_enter Tryz.func9, Tryz.ntmps9
  go_wp2_with fail
  refine hf.mono ?_
  rintro e w1 ⟨rfl, hb1⟩
  clear hf
  by_cases h0 : E = 0
  · subst h0
    have hfr : frmN d = true := by
      have h9 := HES.out.1
      unfold prtE at h9
      cases hq : frmN d with
      | true => rfl
      | false => rw [if_pos hq] at h9; exact absurd h9 (by decide)
    obtain ⟨B, hB⟩ : ∃ q, w1.heap.size = q := ⟨_, rfl⟩
    have bA := below_alloc w1 (.cells #[.pointer none, .slice none 0 0] 74)
    have hI := Bd.fresh w1
    have hv1 := ((hv.kept hb1).low).kept bA
    rw [hB] at hI hv1
    have hV1 := hV.keep hb1
    have hbAB : Below B w1 (w1.alloc (.cells #[.pointer none, .slice none 0 0] 74)) := by rw [← hB]; exact bA
    have hW := write15_any d B B [] (w1.alloc (.cells #[.pointer none, .slice none 0 0] 74)) v hI (by have := bA.size; omega) hv1 hfr hsz (by simp; omega) (fun x hx => hV1.keep (by rw [hB]; exact hbAB.trans hx))
    rw [List.nil_append] at hW
    have HBB : Hid (Below B w1 (w1.alloc (.cells #[.pointer none, .slice none 0 0] 74)) ∧ B ≤ (w1.alloc (.cells #[.pointer none, .slice none 0 0] 74)).heap.size ∧ w1.heap.size = B) := ⟨hbAB, by have := bA.size; omega, hB⟩
    have hST : txtN d = S := by rw [← HES.out.2]; unfold prtS; rw [if_pos HES.out.1]
    rw [hST] at hW
    clear hST hI hv1 hV1 hfr bA hbAB
    go_upto_region 5 with fail
    clear hB
    generalize w1.alloc (.cells #[.pointer none, .slice none 0 0] 74) = Y at *
    go_wp2_with fail
    refine hW.mono ?_
    rintro e w2 ⟨rfl, h2⟩
    clear hW
    have hT := bdST B B S w2 h2.1 (Nat.le_trans HBB.out.2.1 h2.2.1.size)
    go_wp2_with fail
    refine hT.mono ?_
    rintro e w3 ⟨rfl, h3⟩
    clear hT
    have hBl : Below w.heap.size w w3 := hb1.trans (((HBB.out.1.trans h2.2.1).trans h3.2.1).mono (by rw [← HBB.out.2.2]; exact hb1.size))
    clear h2 h3
    go_wp2
    go_ret2
    exact ⟨rfl, hBl⟩
  · have f0 : (E == 0) = false := beq_eq_false_iff_ne.2 h0
    have hS : S = [] := by rw [← HES.out.2]; unfold prtS; rw [if_neg (by rw [HES.out.1]; exact h0)]
    subst hS
    clear h0
    go_wp2
    go_ret2
    exact ⟨rfl, hb1⟩
end Go.Proofs.YtddmmmfpdmejbaaGreatDoor
namespace Go.Proofs.YtddmmmfpdmejbaaGreatDoor
open Go.RowKit

/-! A deep copy of a value -/
def nils (n : Nat) : List Value := List.replicate n .nilIface
def mkV (x y : Value) : Sem Next := do pure (.value (← Instr.makeSlice 53 x y))
section
variable (ρ : Operand → Value) (dst : Option Tmp) (ty : TypeId) (pos : String) (after : Array Edge) (guard : Option (Nat × Bool))
@[go_sem ↓] theorem execOp_mkV (x y : Operand) : execOp ρ { dst, op := .makeSlice 53 x y, type := ty, pos, after, guard } = mkV (ρ x) (ρ y) := rfl
end
theorem info_vV : (Tryz.prog.info? 27).map (fun i => (i.zero, i.size, i.bytes)) = some (some .nilIface, 1, 16) := by kernel_rfl
theorem made_vV (n : Nat) : madeCells #[Value.nilIface] n = (nils n).toArray := by
  apply Array.ext_getElem?
  intro i
  unfold nils
  by_cases hi : i < n
  · simp [madeCells, hi, Nat.mod_one]
  · rw [Array.getElem?_eq_none (by rw [size_madeCells]; omega), Array.getElem?_eq_none (by simp; omega)]
@[go_sem] theorem run_mkV (w : World) (n : Int) (h0 : 0 ≤ n) (h : n ≤ 8796093022208) : (mkV (.int .i64 n) (.int .i64 n)).run Tryz.prog w =
    .ok (.value (.slice (some ⟨w.heap.size, 0, none⟩) n.toNat n.toNat)) (w.alloc (.cells (nils n.toNat).toArray 27)) := by
  obtain ⟨i, hi, hzz⟩ := Option.map_eq_some_iff.1 info_vV
  simp only [Prod.mk.injEq] at hzz
  simp only [mkV, Sem.run_bind]
  rw [run_make (P := Tryz.prog) w 53 27 i _ Tryz.underlying53 hi hzz.1 .i64 .i64 n n h0 (Int.le_refl _) (by rw [hzz.2.2]; omega) (by omega)]
  rw [hzz.2.1, Nat.mul_one, show (Value.nilIface).cells = #[Value.nilIface] from rfl, made_vV]
  rfl
/-- An interface's value. -/
def Ifz (v : Value) : Prop := v = .nilIface ∨ ∃ t p, v = .iface t p
theorem VlG.ifz {w : World} {F : Nat → Prop} {v : Value} {d : Nd} (h : VlG w F v d) : Ifz v := by
  cases h using VlG.rc
  · exact .inl rfl
  all_goals exact .inr ⟨_, _, rfl⟩
def ClP (d : Nd) (w : World) (e : Ending) (w' : World) : Prop := ∃ v', e = .returned v' ∧ VlG w' (w.heap.size ≤ ·) v' d ∧ Below w.heap.size w w'
def ClOk (d : Nd) : Prop := ∀ (w : World) (F : Nat → Prop) (v : Value), VlG w F v d → Calls Tryz.prog 34 #[v] w fun e w' => ClP d w e w'
/-- What cloneAll leaves. -/
def CaP (vs : List Nd) (w : World) (e : Ending) (w' : World) : Prop := ∃ (a : Sl) (us : List Value), e = .returned a.v ∧ IsG w' a.v us ∧ a.In (w.heap.size ≤ ·) ∧ us.length = vs.length ∧ a.n ≤ 1759218604441 ∧ (∀ (i : Nat) u d, us[i]? = some u → vs[i]? = some d → VlG w' (w.heap.size ≤ ·) u d) ∧ Below w.heap.size w w'
/-- What holds ahead of each element. -/
def CaI (g m : Nat) (vs : List Nd) (w wr : World) (j : Nat) : Prop :=
  ∃ us : List Value, OwnG 27 wr g (.slice (some ⟨g, 0, none⟩) m m) us ∧ us.length = m ∧ (∀ (i : Nat) u d, i < j → us[i]? = some u → vs[i]? = some d → VlG wr (fun q => g ≤ q ∧ q ≠ g) u d) ∧ Below g w wr
set_option linter.unusedSimpArgs false in
set_option maxRecDepth 100000 in
set_option maxHeartbeats 8000000 in
theorem cloneAll15_any (vs : List Nd) (ih : ∀ d ∈ vs, ClOk d) (w : World) (F : Nat → Prop) (a : Sl) (us : List Value) (hL : LsG w F a us vs) : Calls Tryz.prog 63 #[a.v] w fun e w' => CaP vs w e w' := by
  obtain ⟨ax, m, ac⟩ := a
  have hmz : m ≤ 1759218604441 := hL.2.2.1
  have hnum : m = us.length := IsG.num (a := ⟨ax, m, ac⟩) hL.1
  have HG : Hid (IsG w (.slice ax m ac) us ∧ us.length = vs.length ∧ (∀ (i : Nat) u d, us[i]? = some u → vs[i]? = some d → VlG w F u d) ∧ m = us.length) := ⟨hL.1, hL.2.1, hL.2.2.2, hnum⟩
  obtain ⟨g, hg⟩ : ∃ q, w.heap.size = q := ⟨_, rfl⟩
  have HW : Hid (w.heap.size = g) := hg
  have bA := below_alloc w (.cells (nils m).toArray 27)
  have h0 : CaI g m vs w (w.alloc (.cells (nils m).toArray 27)) 0 := by
    refine ⟨nils m, ?_, by simp [nils], fun i u d h => absurd h (Nat.not_lt_zero _), by rw [← hg]; exact bA⟩
    have h9 := OwnG.lit 27 w (nils m) (by unfold maxLen; simp [nils]; omega)
    rw [hg, show (nils m).length = m by simp [nils]] at h9
    exact h9
  have i0 : (0 : Int) ≤ (m : Int) := by omega
  have i8 : (m : Int) ≤ 8796093022208 := by omega
  simp only [Sl.v]
  clear hnum hL
  go_enter Tryz.func63, Tryz.ntmps63
  go_wp2_with fail
  generalize w.alloc (.cells (nils m).toArray 27) = Y at *
  clear hg bA
  go_loopw [11] (fun iv wr => ∃ j : Nat, j ≤ m ∧ iv = .int .i64 j ∧ CaI g m vs w wr j) (fun iv _ => m - (intOf iv).toNat)
  case atStart => exact ⟨0, Nat.zero_le _, rfl, h0⟩
  case round =>
    clear h0
    obtain ⟨j, hj, rfl, us', hO, hul, hel, hB⟩ := hrel
    by_cases hlt : j < m
    · have i1 : (j : Int) < (m : Int) := by omega
      have i3 : (0 : Int) ≤ (j : Int) := by omega
      obtain ⟨hG, hl, he, hnum⟩ := HG.out
      have hwg := HW.out
      obtain ⟨u, hu⟩ : ∃ q, us[j]? = some q := ⟨_, List.getElem?_eq_getElem (by omega)⟩
      obtain ⟨dd, hdd⟩ : ∃ q, vs[j]? = some q := ⟨_, List.getElem?_eq_getElem (by omega)⟩
      have hBw : Below w.heap.size w wr := by rw [hwg]; exact hB
      have hGr := isG_kept15 hG hBw
      obtain ⟨bb, pp, rfl, -, cu⟩ := IsG.spot hGr j (by omega)
      have q1 := cu j u hu
      have hC := ih dd (List.mem_of_getElem? hdd) wr F u ((he j u dd hu hdd).kept hBw)
      have hwr : IntKind.i64.wrap ((j : Int) + 1) = (j : Int) + 1 := by rw [IntKind.wrap_i64]; omega
      have HD : Hid (vs[j]? = some dd) := hdd
      clear hu hdd hG hl he hnum cu hGr hwg
      go_wp2_with fail
      refine hC.mono ?_
      rintro e w2 ⟨v', rfl, hv2, hb2⟩
      clear hC q1
      have hO2 := hO.keep hb2
      have hgr : g < wr.heap.size := (hO.lt g rfl).2
      have hz2 : w2.frozen? ⟨g, j, none⟩ = false := hO2.frozen j
      have cz2 : ∃ z, w2.cell? ⟨g, j, none⟩ = some z := ⟨_, hO2.cell j us'[j] (List.getElem?_eq_getElem (by omega))⟩
      obtain ⟨z9, cz2⟩ := cz2
      obtain ⟨hO3, hg3⟩ := hO2.put j v'
      have hB3 : Below g w (w2.setCell ⟨g, j, none⟩ v') := by
        have h9 := hB.trans (hb2.mono (Nat.le_of_lt hgr))
        exact ⟨hg3.os.trans h9.os, hg3.tape.trans h9.tape, hg3.output.trans h9.output, Nat.le_trans h9.size hg3.size, fun q hq => (hg3.block q (by have := h9.size; have := HW.out; omega) (fun e => by cases e; omega)).trans (h9.block q hq)⟩
      have HI : Hid (CaI g m vs w (w2.setCell ⟨g, j, none⟩ v') (j + 1)) := by
        refine ⟨us'.set j v', hO3, by rw [List.length_set]; exact hul, fun i u d hi hui hdi => ?_, hB3⟩
        by_cases hij : i = j
        · subst hij
          rw [List.getElem?_set_self (by omega)] at hui
          cases hui
          rw [HD.out] at hdi
          cases hdi
          have h7 : VlG w2 (fun q => g ≤ q ∧ q ≠ g) v' dd := hv2.mono fun q hq => ⟨by omega, by omega⟩
          exact h7.ag fun q hq hql => hg3.block q hql (fun e => hq.2 (Option.some.inj e))
        · rw [List.getElem?_set_ne (fun e => hij e.symm)] at hui
          have h7 := (hel i u d (by omega) hui hdi).kept hb2
          exact h7.ag fun q hq hql => hg3.block q hql (fun e => hq.2 (Option.some.inj e))
      have hone := hv2.ifz
      clear hO hul hel hB hO2 hv2 hb2 hO3 hg3 hB3 hBw
      rcases hone with rfl | ⟨vt, vp, rfl⟩
      · go_wp2
        go_roundw
        case rel => first | exact ⟨j + 1, by omega, by go_num, HI.out⟩ | ((repeat apply Exists.intro); refine ⟨⟨j + 1, by omega, ?_, HI.out⟩, rfl⟩; go_num)
        case measure => simp [intOf]; omega
      · go_wp2
        go_roundw
        case rel => first | exact ⟨j + 1, by omega, by go_num, HI.out⟩ | ((repeat apply Exists.intro); refine ⟨⟨j + 1, by omega, ?_, HI.out⟩, rfl⟩; go_num)
        case measure => simp [intOf]; omega
    · obtain rfl : j = m := by omega
      have i1 : ¬ (j : Int) < (j : Int) := by omega
      have HE : Hid (CaP vs w (.returned (.slice (some ⟨g, 0, none⟩) j j)) wr) := by
        obtain ⟨hG, hl, he, hnum⟩ := HG.out
        refine ⟨⟨some ⟨g, 0, none⟩, j, j⟩, us', rfl, hO.isG, fun _ p hp => by cases hp; rw [HW.out]; exact Nat.le_refl _, by omega, hmz, fun i u d hu hd => ?_, by rw [HW.out]; exact hB⟩
        have hi : i < j := by have := (List.getElem?_eq_some_iff.1 hu).1; omega
        exact (hel i u d hi hu hd).mono fun q hq => by rw [HW.out]; exact hq.1
      clear hO hul hel hB
      go_wp2
      go_ret
      exact HE.out
end Go.Proofs.YtddmmmfpdmejbaaGreatDoor
namespace Go.Proofs.YtddmmmfpdmejbaaGreatDoor
open Go.RowKit

/-! clone, field, Field -/
theorem lsG_kept {w w1 : World} {F : Nat → Prop} {a : Sl} {us : List Value} {vs : List Nd} (h : LsG w F a us vs) (hb : Below w.heap.size w w1) : LsG w1 F a us vs := ⟨isG_kept15 h.1 hb, h.2.1, h.2.2.1, fun i u d h1 h2 => (h.2.2.2 i u d h1 h2).kept hb⟩
set_option linter.unusedSimpArgs false in
set_option maxRecDepth 100000 in
set_option maxHeartbeats 8000000 in
theorem cloneV15_any : ∀ d, ClOk d := Nd.ind fun k n ss kk vs ih => by
  intro w F v hv
  cases hv using VlG.rc with
  | nil k hk =>
    go_enter Tryz.func34, Tryz.ntmps34
    go_wp2
    go_ret
    exact ⟨_, rfl, .nil k hk, Below.refl _ _⟩
  | null =>
    go_enter Tryz.func34, Tryz.ntmps34
    go_wp2
    go_ret
    exact ⟨_, rfl, .null, Below.refl _ _⟩
  | bool b =>
    go_enter Tryz.func34, Tryz.ntmps34
    go_wp2
    go_ret
    exact ⟨_, rfl, .bool b, Below.refl _ _⟩
  | num n hn =>
    go_enter Tryz.func34, Tryz.ntmps34
    go_wp2
    go_ret
    exact ⟨_, rfl, .num _ hn, Below.refl _ _⟩
  | str s =>
    go_enter Tryz.func34, Tryz.ntmps34
    go_wp2
    go_ret
    exact ⟨_, rfl, .str s, Below.refl _ _⟩
  | list a us ds hv hF hl hz he r9 =>
    clear r9
    have hC := cloneAll15_any vs ih w F a us ⟨hv, hl, hz, he⟩
    obtain ⟨ax, an, ac⟩ := a
    simp only [Sl.v] at hC ⊢
    clear hv hF hl hz he
    go_enter Tryz.func34, Tryz.ntmps34
    go_wp2_with fail
    refine hC.mono ?_
    rintro e w1 ⟨a9, us9, rfl, h1, h2, h3, h4, h5, h6⟩
    clear hC
    have HE : Hid (ClP (.mk 5 0 [] [] vs) w (.returned (.iface 68 a9.v)) w1) := ⟨_, rfl, .list a9 us9 vs h1 h2 h3 h4 h5, h6⟩
    obtain ⟨bx, bn, bc⟩ := a9
    simp only [Sl.v] at HE ⊢
    clear h1 h2 h3 h4 h5 h6
    go_wp2
    go_ret
    exact HE.out
  | obj ks a kb us ds hk hkF hv hF hl hz he r9 =>
    clear r9
    have bA := below_alloc w (.cells #[ks.v, a.v] 70)
    have HK : Hid (IsG (w.alloc (.cells #[ks.v, a.v] 70)) ks.v (strs kb)) := isG_kept15 hk bA
    have HL : Hid (LsG (w.alloc (.cells #[ks.v, a.v] 70)) F a us vs) := ⟨isG_kept15 hv bA, hl, hz.2, fun i u d h1 h2 => (he i u d h1 h2).kept bA⟩
    have hkz : ks.n ≤ 8796093022208 := hz.1
    obtain ⟨ax, an, ac⟩ := a
    obtain ⟨kx, kn, kc⟩ := ks
    simp only [Sl.v] at bA HK HL hkz ⊢
    have rA := RowC.new w #[.slice kx kn kc, .slice ax an ac] 70
    obtain ⟨g0, hg0⟩ : ∃ q, w.heap.size = q := ⟨_, rfl⟩
    rw [hg0] at rA
    have c0 : (w.alloc (.cells #[.slice kx kn kc, .slice ax an ac] 70)).cell? ⟨g0, 0, none⟩ = some (.slice kx kn kc) := rA.cell 0
    have c1 : (w.alloc (.cells #[.slice kx kn kc, .slice ax an ac] 70)).cell? ⟨g0, 1, none⟩ = some (.slice ax an ac) := rA.cell 1
    have HG0 : Hid (w.heap.size = g0) := hg0
    clear hv hF hl hz he hk hkF rA
    go_enter Tryz.func34, Tryz.ntmps34
    go_upto_region 7 with fail
    clear hg0
    generalize w.alloc (.cells #[.slice kx kn kc, .slice ax an ac] 70) = Y at *
    obtain ⟨nY, hnY⟩ : ∃ q, Y.heap.size = q := ⟨_, rfl⟩
    have HNY : Hid (Y.heap.size = nY) := hnY
    clear hnY
    refine wp_reliesT [Fx (.pointer (some ⟨g0, 0, none⟩)), Fx (.slice kx kn kc), fun v x => ∃ a : Sl, v = a.v ∧ OwnG 9 x nY a.v (strs kb), Fx (.pointer (some ⟨g0, 1, none⟩)), Fx (.slice ax an ac), fun v x => ∃ (a : Sl) (us : List Value), v = a.v ∧ IsG x a.v us ∧ a.In (nY ≤ ·) ∧ us.length = vs.length ∧ a.n ≤ 1759218604441 ∧ ∀ (i : Nat) u d, us[i]? = some u → vs[i]? = some d → VlG x (nY ≤ ·) u d] (by kernel_rfl) (by kernel_rfl) ?_ ?_ ?_
    · repeat' (first | exact all_nil | apply all_cons)
      all_goals intro v y y' hv hb
      all_goals first | exact Fx_mono _ _ _ _ hv hb | (obtain ⟨a9, q1, q2⟩ := hv; exact ⟨a9, q1, q2.keep hb⟩) | (obtain ⟨a9, us9, q1, q2, q3, q4, q5, q6⟩ := hv; exact ⟨a9, us9, q1, isG_kept15 q2 hb, q3, q4, q5, fun i u d z1 z2 => (q6 i u d z1 z2).kept hb⟩)
    · refine ⟨?_, ?_, ?_, ?_, ?_, ?_, trivial⟩
      all_goals
        intro ρ x hp ρc ρg ρf ho hd
        have o4 : ρ (.tmp 4) = .pointer (some ⟨g0, 0, none⟩) := ho 4 rfl
        clear ho
        have k0 := cell_later hp c0
        have k1 := cell_later hp c1
        simp only [depsR, depR, slotR, Fx, List.getElem?_cons_succ, List.getElem?_cons_zero, Region.binds, forall_const] at hd
        simp only [guardR]
        go_split_ands
      · go_simp
      · go_simp
      · go_simp
        refine (clone15_any kx kn kc kb x (isG_kept15 HK.out hp) hkz).mono ?_
        rintro e x' ⟨a9, rfl, h1, h2⟩
        exact ⟨_, rfl, ⟨a9, rfl, h1.le (by have := hp.size; have := HNY.out; omega)⟩, h2⟩
      · go_simp
      · go_simp
      · go_simp
        refine (cloneAll15_any vs ih x F ⟨ax, an, ac⟩ us (lsG_kept HL.out hp)).mono ?_
        rintro e x' ⟨a9, us9, rfl, h1, h2, h3, h4, h5, h6⟩
        have hz9 : nY ≤ x.heap.size := by have := hp.size; have := HNY.out; omega
        exact ⟨_, rfl, ⟨a9, rfl, us9, h1, h2.mono (fun q hq => Nat.le_trans hz9 hq), h3, h4, fun i u d q1 q2 => (h5 i u d q1 q2).mono (fun q hq => Nat.le_trans hz9 hq)⟩, h6⟩
    · intro vz x1 hp hw
      simp only [owed, Fx] at hw
      obtain ⟨e0, e1, ⟨a2, e2, hO2⟩, e3, e4, ⟨a5, us5, e5, hG5, hI5, hl5, hn5, hv5⟩, -⟩ := hw
      simp only [List.length_cons, List.length_nil, List.take_succ_cons, List.take_zero, List.drop_succ_cons, List.drop_zero, asg, List.cons_append, List.nil_append, e0, e1, e2, e3, e4, e5]
      clear e0 e1 e2 e3 e4 e5
      have hnw : w.heap.size ≤ nY := by rw [← HNY.out]; exact bA.size
      have hkn : a2.n ≤ 8796093022208 := by
        have h9 : a2.n = (strs kb).length := IsG.num hO2.isG
        have h8 : kn = (strs kb).length := IsG.num (a := ⟨kx, kn, kc⟩) HK.out
        omega
      have HE : Hid (ClP (.mk 6 0 [] (kb.map lS) vs) w (.returned (.iface 70 (.agg #[a2.v, a5.v]))) x1) := by
        refine ⟨_, rfl, .obj a2 a5 kb us5 vs hO2.isG ?_ hG5 (hI5.mono fun q hq => Nat.le_trans hnw hq) hl5 ⟨hkn, hn5⟩ (fun i u d q1 q2 => (hv5 i u d q1 q2).mono fun q hq => Nat.le_trans hnw hq), bA.trans (hp.mono bA.size)⟩
        exact (Sl.own_inG15 hO2).mono fun q hq => Nat.le_trans hnw hq
      obtain ⟨bx, bn, bc⟩ := a2
      obtain ⟨dx, dn, dc⟩ := a5
      simp only [Sl.v] at HE ⊢
      clear hO2 hG5 hI5 hl5 hn5 hv5 hkn c0 c1
      go_wp2
      go_ret
      exact HE.out
end Go.Proofs.YtddmmmfpdmejbaaGreatDoor
namespace Go.Proofs.YtddmmmfpdmejbaaGreatDoor
open Go.RowKit

/-! field, Field -/
theorem idxF_ge (s : ByteArray) : ∀ (kb : List ByteArray) (i : Nat), 0 ≤ Lib.idxFromS kb s i → (i : Int) ≤ Lib.idxFromS kb s i
  | [], i, h => by simp [Lib.idxFromS] at h
  | z :: zs, i, h => by
    unfold Lib.idxFromS at h ⊢
    split
    · omega
    · rename_i hz
      rw [if_neg hz] at h
      have := idxF_ge s zs (i + 1) h
      omega
theorem fld_idx (s : ByteArray) : ∀ (kb : List ByteArray) (vs : List Nd) (i : Nat), fldK (lS s) (kb.map lS) vs = if 0 ≤ Lib.idxFromS kb s i then vs[(Lib.idxFromS kb s i).toNat - i]? else none
  | [], vs, i => by
    unfold Lib.idxFromS
    rw [if_neg (by decide), List.map_nil]
    cases vs <;> rfl
  | z :: zs, [], i => by
    rw [List.map_cons]
    simp [fldK]
  | z :: zs, v :: vs, i => by
    rw [List.map_cons, fldK]
    unfold Lib.idxFromS
    by_cases h : z = s
    · subst h
      rw [if_pos rfl, if_pos rfl, if_pos (by omega)]
      simp
    · rw [if_neg (fun e => h (lS_inj e)), if_neg h, fld_idx s zs vs (i + 1)]
      by_cases h0 : 0 ≤ Lib.idxFromS zs s (i + 1)
      · rw [if_pos h0, if_pos h0]
        have := idxF_ge s zs (i + 1) h0
        rw [show (Lib.idxFromS zs s (i + 1)).toNat - i = ((Lib.idxFromS zs s (i + 1)).toNat - (i + 1)) + 1 by omega]
        simp
      · rw [if_neg h0, if_neg h0]
theorem index15_any (x : Option Addr) (n c : Nat) (kb : List ByteArray) (s : ByteArray) (w : World) (h : IsG w (.slice x n c) (strs kb)) (hz : n ≤ 8796093022208) :
    Calls Tryz.prog 61 #[.slice x n c, .string s] w fun e w' => e = .returned (.int .i64 (Lib.idxOfS kb s)) ∧ w' = w := by
  have hn : n = kb.length := by have h9 : n = (strs kb).length := IsG.num (a := ⟨x, n, c⟩) h; rw [h9]; simp [strs]
  by_cases h0 : kb = []
  · subst h0
    obtain rfl : n = 0 := hn
    exact Any.slices_Index_string_empty layIx x c s w
  · obtain ⟨b, p, rfl, -, cu⟩ := IsG.spot h 0 (by simp [strs]; exact List.length_pos_iff.2 h0)
    subst hn
    have h9 := Any.slices_Index_string layIx b p kb.length c kb s w (Nat.le_refl _) (by omega) (fun j hj => by
      rw [cu j (.string kb[j]) (by simp [strs, hj]), List.getD_eq_getElem?_getD, List.getElem?_eq_getElem hj]
      rfl)
    rw [List.take_length] at h9
    exact h9
def FiP (F : Nat → Prop) (o : Option Nd) (w : World) (e : Ending) (w' : World) : Prop := (∃ v b, e = .returned (.tuple #[v, .bool b]) ∧ (∀ d, o = some d → b = true ∧ VlG w' F v d) ∧ (o = none → b = false ∧ v = .nilIface)) ∧ Below w.heap.size w w'
set_option linter.unusedSimpArgs false in
set_option maxRecDepth 100000 in
set_option maxHeartbeats 8000000 in
theorem fieldI15_any (d : Nd) (F : Nat → Prop) (v : Value) (s : ByteArray) (w : World) (hv : VlG w F v d) : Calls Tryz.prog 32 #[v, .string s] w fun e w' => FiP F (fldN d (lS s)) w e w' := by
  obtain ⟨O, hO⟩ : ∃ q, fldN d (lS s) = q := ⟨_, rfl⟩
  have HO : Hid (fldN d (lS s) = O) := hO
  rw [hO]
  clear hO
  cases hv using VlG.rc with
  | nil k hk =>
    obtain rfl : O = none := by rw [← HO.out, fldN, if_neg (by omega)]
    go_enter Tryz.func32, Tryz.ntmps32
    go_wp2
    go_ret2
    exact ⟨⟨_, _, rfl, fun d h => (by cases h), fun _ => ⟨rfl, rfl⟩⟩, Below.refl _ _⟩
  | null =>
    obtain rfl : O = none := by rw [← HO.out]; rfl
    go_enter Tryz.func32, Tryz.ntmps32
    go_wp2
    go_ret2
    exact ⟨⟨_, _, rfl, fun d h => (by cases h), fun _ => ⟨rfl, rfl⟩⟩, Below.refl _ _⟩
  | bool b =>
    obtain rfl : O = none := by rw [← HO.out]; rfl
    go_enter Tryz.func32, Tryz.ntmps32
    go_wp2
    go_ret2
    exact ⟨⟨_, _, rfl, fun d h => (by cases h), fun _ => ⟨rfl, rfl⟩⟩, Below.refl _ _⟩
  | num n hn =>
    obtain rfl : O = none := by rw [← HO.out]; rfl
    go_enter Tryz.func32, Tryz.ntmps32
    go_wp2
    go_ret2
    exact ⟨⟨_, _, rfl, fun d h => (by cases h), fun _ => ⟨rfl, rfl⟩⟩, Below.refl _ _⟩
  | str t =>
    obtain rfl : O = none := by rw [← HO.out]; rfl
    go_enter Tryz.func32, Tryz.ntmps32
    go_wp2
    go_ret2
    exact ⟨⟨_, _, rfl, fun d h => (by cases h), fun _ => ⟨rfl, rfl⟩⟩, Below.refl _ _⟩
  | list a us ds hv hF hl hz he r9 =>
    clear r9
    obtain rfl : O = none := by rw [← HO.out]; rfl
    obtain ⟨ax, an, ac⟩ := a
    simp only [Sl.v]
    clear hv hF hl hz he
    go_enter Tryz.func32, Tryz.ntmps32
    go_wp2
    go_ret2
    exact ⟨⟨_, _, rfl, fun d h => (by cases h), fun _ => ⟨rfl, rfl⟩⟩, Below.refl _ _⟩
  | obj ks a kb us ds hk hkF hv hF hl hz he r9 =>
    clear r9
    have bA := below_alloc w (.cells #[ks.v, a.v] 70)
    have hkY : IsG (w.alloc (.cells #[ks.v, a.v] 70)) ks.v (strs kb) := isG_kept15 hk bA
    have HL : Hid (LsG (w.alloc (.cells #[ks.v, a.v] 70)) F a us ds) := ⟨isG_kept15 hv bA, hl, hz.2, fun i u d h1 h2 => (he i u d h1 h2).kept bA⟩
    have hkz : ks.n ≤ 8796093022208 := hz.1
    obtain ⟨ax, an, ac⟩ := a
    obtain ⟨kx, kn, kc⟩ := ks
    simp only [Sl.v] at bA hkY HL hkz ⊢
    have hI := index15_any kx kn kc kb s _ hkY hkz
    have rA := RowC.new w #[.slice kx kn kc, .slice ax an ac] 70
    obtain ⟨g0, hg0⟩ : ∃ q, w.heap.size = q := ⟨_, rfl⟩
    rw [hg0] at rA
    have c0 : (w.alloc (.cells #[.slice kx kn kc, .slice ax an ac] 70)).cell? ⟨g0, 0, none⟩ = some (.slice kx kn kc) := rA.cell 0
    have c1 : (w.alloc (.cells #[.slice kx kn kc, .slice ax an ac] 70)).cell? ⟨g0, 1, none⟩ = some (.slice ax an ac) := rA.cell 1
    have HG0 : Hid (w.heap.size = g0) := hg0
    have hfl : O = if 0 ≤ Lib.idxOfS kb s then ds[(Lib.idxOfS kb s).toNat]? else none := by
      rw [← HO.out, fldN, if_pos rfl, fld_idx s kb ds 0]
      rfl
    have HRAN : Hid (an = ds.length) := by show _ = _; have h9 : an = us.length := IsG.num (a := ⟨ax, an, ac⟩) hv; omega
    obtain ⟨r, hr⟩ : ∃ q, Lib.idxOfS kb s = q := ⟨_, rfl⟩
    rw [hr] at hI hfl
    have HFL : Hid (O = if 0 ≤ r then ds[r.toNat]? else none) := hfl
    clear hfl
    clear hr hv hF hl hz he hk hkF rA hkY
    go_enter Tryz.func32, Tryz.ntmps32
    go_upto_region 4 with fail
    clear hg0
    generalize w.alloc (.cells #[.slice kx kn kc, .slice ax an ac] 70) = Y at *
    go_wp2_with fail
    refine hI.mono ?_
    rintro e w1 ⟨rfl, rfl⟩
    clear hI
    have hfl := HFL.out
    by_cases h0 : 0 ≤ r
    · obtain ⟨j, rfl⟩ : ∃ j : Nat, r = (j : Int) := ⟨r.toNat, by omega⟩
      rw [if_pos h0, show ((j : Int)).toNat = j by omega] at hfl
      have hran := HRAN.out
      by_cases hj : j < an
      · obtain ⟨dd, hdd⟩ : ∃ q, ds[j]? = some q := ⟨_, List.getElem?_eq_getElem (by omega)⟩
        rw [hdd] at hfl
        subst hfl
        have i1 : (j : Int) < (an : Int) := by omega
        obtain ⟨g1, g2, -, g4⟩ := HL.out
        obtain ⟨u, hu⟩ : ∃ q, us[j]? = some q := ⟨_, List.getElem?_eq_getElem (by omega)⟩
        obtain ⟨bb, pp, rfl, -, cu⟩ := IsG.spot g1 j (by omega)
        have q1 := cu j u hu
        have hvl := g4 j u dd hu hdd
        have HV : Hid (VlG w1 F u dd) := hvl
        clear cu g1 g2 g4 hu hdd hvl hran
        go_wp2
        go_ret2
        exact ⟨⟨_, _, rfl, fun d h => ⟨rfl, by cases h; exact HV.out⟩, fun h => (by cases h)⟩, bA⟩
      · have i1 : ¬ (j : Int) < (an : Int) := by omega
        rw [List.getElem?_eq_none (by omega)] at hfl
        subst hfl
        clear hran
        go_wp2
        go_ret2
        exact ⟨⟨_, _, rfl, fun d h => (by cases h), fun _ => ⟨rfl, rfl⟩⟩, bA⟩
    · rw [if_neg h0] at hfl
      subst hfl
      go_wp2
      go_ret2
      exact ⟨⟨_, _, rfl, fun d h => (by cases h), fun _ => ⟨rfl, rfl⟩⟩, bA⟩
theorem fldK_mem (key : List UInt8) : ∀ (ks : List (List UInt8)) (vs : List Nd) (d : Nd), fldK key ks vs = some d → d ∈ vs
  | [], vs, d, h => by cases vs <;> cases h
  | _ :: _, [], d, h => by cases h
  | k :: ks, v :: vs, d, h => by
    rw [fldK] at h
    split at h
    · cases h; simp
    · exact List.mem_cons_of_mem _ (fldK_mem key ks vs d h)
theorem fldN_dep (d x : Nd) (key : List UInt8) (h : fldN d key = some x) : depN x ≤ depN d := by
  obtain ⟨k, n, s, ks, vs⟩ := d
  rw [fldN] at h
  split at h
  · rename_i hk
    have h1 := depL_mem vs x (fldK_mem key ks vs x h)
    rw [depN_mk, if_pos (.inr hk)]
    omega
  · cases h
set_option linter.unusedSimpArgs false in
set_option maxRecDepth 100000 in
set_option maxHeartbeats 8000000 in
theorem field15_any (d : Nd) (F : Nat → Prop) (v : Value) (s : ByteArray) (w : World) (hv : VlG w F v d) (hd : depN d ≤ 60000) : Calls Tryz.prog 13 #[v, .string s] w fun e w' => FdP (fldN d (lS s)) w e w' := by
  have hf := fieldI15_any d F v s w hv
  have hdp := fun x hx => fldN_dep d x (lS s) hx
  obtain ⟨O, hO⟩ : ∃ q, fldN d (lS s) = q := ⟨_, rfl⟩
  rw [hO] at hf hdp
  rw [hO]
  clear hO
  go_enter Tryz.func13, Tryz.ntmps13
  go_wp2_with fail
  refine hf.mono ?_
  rintro e w1 ⟨⟨x, b, rfl, hy, hno⟩, hb1⟩
  clear hf
  cases O with
  | none =>
    obtain ⟨rfl, rfl⟩ := hno rfl
    clear hy hno
    go_wp2
    go_ret2
    exact ⟨⟨_, _, rfl, fun d h => (by cases h), fun _ => ⟨rfl, rfl⟩⟩, hb1⟩
  | some dd =>
    obtain ⟨rfl, hx⟩ := hy dd rfl
    have hdd := hdp dd rfl
    have h1 := deeper15_any dd w1 F x 65536 hx (by omega)
    rw [decide_eq_false (by omega)] at h1
    have h1' : Calls Tryz.prog 33 #[x, .int .i64 65536] w1 fun e w' => e = .returned (.bool false) ∧ Below w1.heap.size w1 w' := h1
    clear h1 hy hno hdp
    go_wp2_with fail
    refine h1'.mono ?_
    rintro e w2 ⟨rfl, hb2⟩
    clear h1'
    have hC := cloneV15_any dd w2 F x (hx.kept hb2)
    go_wp2_with fail
    refine hC.mono ?_
    rintro e w3 ⟨v', rfl, hv3, hb3⟩
    clear hC
    have hBl : Below w.heap.size w w3 := (hb1.trans (hb2.mono hb1.size)).trans (hb3.mono (Nat.le_trans hb1.size hb2.size))
    have HV : Hid (VlG w3 (w2.heap.size ≤ ·) v' dd) := hv3
    have hif := hv3.ifz
    clear hv3
    rcases hif with rfl | ⟨vt, vp, rfl⟩
    · go_wp2
      go_ret2
      exact ⟨⟨_, _, rfl, fun d h => ⟨rfl, _, by cases h; exact HV.out⟩, fun h => (by cases h)⟩, hBl⟩
    · go_wp2
      go_ret2
      exact ⟨⟨_, _, rfl, fun d h => ⟨rfl, _, by cases h; exact HV.out⟩, fun h => (by cases h)⟩, hBl⟩
end Go.Proofs.YtddmmmfpdmejbaaGreatDoor
