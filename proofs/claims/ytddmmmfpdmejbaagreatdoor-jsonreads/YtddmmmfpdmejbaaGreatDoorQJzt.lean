import Derived.Test.YtddmmmfpdmejbaaGreatDoorQJzr
namespace Go.Proofs.YtddmmmfpdmejbaaGreatDoor
open Go.RowKit

/-! Writing a value -/
theorem VlG.low {w : World} {F : Nat → Prop} {v : Value} {d : Nd} (h : VlG w F v d) : VlG w (· < w.heap.size) v d := by
  induction h using VlG.rc with
  | nil k hk => exact .nil k hk
  | null => exact .null
  | bool b => exact .bool b
  | num n hn => exact .num n hn
  | str s => exact .str s
  | list a us ds hv hF hl hz he ih => exact .list a us ds hv (IsG.low hv) hl hz ih
  | obj ks a kb us ds hk hkF hv hF hl hz he ih => exact .obj ks a kb us ds hk (IsG.low hk) hv (IsG.low hv) hl hz ih
theorem VlG.mono {w : World} {F G : Nat → Prop} {v : Value} {d : Nd} (h : VlG w F v d) (hFG : ∀ b, F b → G b) : VlG w G v d := by
  induction h using VlG.rc with
  | nil k hk => exact .nil k hk
  | null => exact .null
  | bool b => exact .bool b
  | num n hn => exact .num n hn
  | str s => exact .str s
  | list a us ds hv hF hl hz he ih => exact .list a us ds hv (hF.mono hFG) hl hz ih
  | obj ks a kb us ds hk hkF hv hF hl hz he ih => exact .obj ks a kb us ds hk (hkF.mono hFG) hv (hF.mono hFG) hl hz ih
theorem VlG.keepB {w w1 : World} {B : Nat} {v : Value} {d : Nd} (h : VlG w (· < B) v d) (hb : Below B w w1) : VlG w1 (· < B) v d := h.ag fun q hq _ => hb.block q hq
theorem isG_keepB {w w1 : World} {B : Nat} {a : Sl} {us : List Value} (h : IsG w a.v us) (hF : a.In (· < B)) (hb : Below B w w1) : IsG w1 a.v us := h.ag hF fun q hq _ => hb.block q hq
theorem oth_below {b : Option Nat} {w w1 : World} (hb : Below w.heap.size w w1) : Lib.OthersKept 5 b w w1 := fun k _ hk _ _ => (hb.block k (Array.getElem?_eq_some_iff.1 hk).1).trans hk
theorem BdP.of_later {B b : Nat} {m : List UInt8} {w w1 w2 : World} (hb : Below w.heap.size w w1) (hB : B ≤ w.heap.size) (h : BdP B b m w1 w2) : BdP B b m w w2 := ⟨h.1, (hb.mono hB).trans h.2.1, (oth_below hb).trans h.2.2⟩
theorem BdP.here {B b : Nat} {m : List UInt8} {w : World} (h : Bd B b m w) : BdP B b m w w := ⟨h, Below.refl _ _, Lib.OthersKept.refl _ _ _⟩
/-- What is left: the text is written. -/
def WrP (B b : Nat) (l : List UInt8) (w : World) (e : Ending) (w' : World) : Prop := e = .returned (.tuple #[]) ∧ BdP B b l w w'
set_option linter.unusedSimpArgs false in
set_option maxRecDepth 100000 in
theorem writeText15_any (B b : Nat) (acc : List UInt8) (s : ByteArray) (w : World) (h : Bd B b acc w) (hB : B ≤ w.heap.size) (hs : s.size ≤ 1099511627776) (hl : acc.length ≤ 70368744177664) :
    Calls Tryz.prog 52 #[.pointer (some ⟨b, 0, none⟩), .string s] w fun e w' => WrP B b (acc ++ quS (lS s)) w e w' := by
  have hQ := lexOk.quo s w (by omega)
  have hql := quS_len15 (lS s)
  rw [lS_len] at hql
  obtain ⟨q, hq⟩ : ∃ q, quS (lS s) = q := ⟨_, rfl⟩
  obtain ⟨E, hE⟩ : ∃ q, quE (lS s) = q := ⟨_, rfl⟩
  unfold QuP at hQ
  rw [hq, hE] at hQ
  rw [hq] at hql ⊢
  clear hq hE
  obtain ⟨R, hR⟩ : ∃ z, acc ++ q = z := ⟨_, rfl⟩
  go_enter Tryz.func52, Tryz.ntmps52
  go_wp2_with fail
  refine hQ.mono ?_
  rintro e w1 ⟨rfl, hb1⟩
  clear hQ
  have hW := bdWS B b acc q ⟨q.toArray⟩ (lS_mk q) w1 (h.later hb1) (by omega) (Nat.le_trans hB hb1.size)
  rw [hR] at hW
  obtain ⟨qn, hqn⟩ : ∃ z, (q.length : Int) = z := ⟨_, rfl⟩
  rw [hqn] at hW
  clear hqn
  have HRR : Hid (acc ++ q = R) := hR
  clear hR
  go_wp2_with fail
  refine hW.mono ?_
  rintro e w2 ⟨rfl, h2⟩
  clear hW
  have h3 := BdP.of_later hb1 hB h2
  clear h2
  go_wp2
  go_end0
  rw [HRR.out]
  exact ⟨rfl, h3⟩
set_option linter.unusedSimpArgs false in
set_option maxRecDepth 100000 in
theorem writeComma15_any (B b : Nat) (acc : List UInt8) (i : Nat) (w : World) (h : Bd B b acc w) (hB : B ≤ w.heap.size) (hl : acc.length ≤ 70368744177664) :
    Calls Tryz.prog 80 #[.pointer (some ⟨b, 0, none⟩), .int .i64 (i : Int)] w fun e w' => WrP B b (acc ++ (bif decide (i = 0) then [] else [44])) w e w' := by
  by_cases h0 : i = 0
  · subst h0
    rw [decide_eq_true rfl, cond_true, List.append_nil]
    go_enter Tryz.func80, Tryz.ntmps80
    go_wp2
    go_end0
    exact ⟨rfl, BdP.here h⟩
  · rw [decide_eq_false h0, cond_false]
    have hW : Calls Tryz.prog 79 #[.pointer (some ⟨b, 0, none⟩), .int .u8 44] w fun e w' => e = .returned .nilIface ∧ BdP B b (acc ++ [44]) w w' := bdWB B b acc 44 w h (by omega) hB
    have i0 : (0 : Int) < (i : Int) := by omega
    clear h0
    go_enter Tryz.func80, Tryz.ntmps80
    go_wp2_with fail
    refine hW.mono ?_
    rintro e w1 ⟨rfl, h1⟩
    clear hW
    go_wp2
    go_end0
    exact ⟨rfl, h1⟩
theorem take_emp {α : Type} {vs : List α} {j : Nat} (h : j < vs.length) : ((vs.take j).isEmpty && true) = decide (j = 0) := by
  rw [Bool.and_true]
  cases vs with
  | nil => simp at h
  | cons a r =>
    cases j with
    | zero => rfl
    | succ j => rfl
theorem szL_snoc (d : Nd) : ∀ a : List Nd, szL (a ++ [d]) = szL a + szN d
  | [] => by rw [List.nil_append, szL, szL, szL]; omega
  | x :: r => by rw [List.cons_append, szL, szL, szL_snoc d r]; omega
/-- What writing a value owes. -/
def WrOk (d : Nd) : Prop := ∀ (B b : Nat) (acc : List UInt8) (w : World) (v : Value), Bd B b acc w → B ≤ w.heap.size → VlG w (· < B) v d → frmN d = true → szN d ≤ 1099511627776 → acc.length + 12 * szN d ≤ 35184372088832 → (∀ x, Below B w x → VJ x) → Calls Tryz.prog 27 #[.pointer (some ⟨b, 0, none⟩), v] w fun e w' => WrP B b (acc ++ txtN d) w e w'
set_option linter.unusedSimpArgs false in
set_option maxRecDepth 100000 in
set_option maxHeartbeats 4000000 in
theorem writeList15_any (vs : List Nd) (ih : ∀ d ∈ vs, WrOk d) (B b : Nat) (acc : List UInt8) (w : World) (a : Sl) (us : List Value) (h : Bd B b acc w) (hB : B ≤ w.heap.size) (hv : IsG w a.v us) (hF : a.In (· < B)) (hl : us.length = vs.length) (hz : a.n ≤ 1759218604441) (he : ∀ (i : Nat) u d, us[i]? = some u → vs[i]? = some d → VlG w (· < B) u d) (hfr : frmL vs = true) (hsz : szL vs ≤ 1099511627776) (hal : acc.length + 12 * szL vs + 400 ≤ 35184372088832) (hV : ∀ x, Below B w x → VJ x) :
    Calls Tryz.prog 53 #[.pointer (some ⟨b, 0, none⟩), a.v] w fun e w' => WrP B b (acc ++ 91 :: (txtL vs true ++ [93])) w e w' := by
  obtain ⟨ax, m, ac⟩ := a
  have hnum : m = us.length := IsG.num (a := ⟨ax, m, ac⟩) hv
  have HG : Hid (IsG w (.slice ax m ac) us ∧ (⟨ax, m, ac⟩ : Sl).In (· < B) ∧ m = us.length ∧ us.length = vs.length ∧ ∀ (i : Nat) u d, us[i]? = some u → vs[i]? = some d → VlG w (· < B) u d) := ⟨hv, hF, hnum, hl, he⟩
  have HS : Hid (∀ j, (txtL (vs.take j) true).length ≤ 6 * szL (vs.take j) ∧ szL (vs.take j) ≤ szL vs) := fun j => ⟨txtL_len _ _ (fun d _ => txtN_len d), szL_take vs j⟩
  have HV : Hid (∀ x, Below B w x → VJ x) := hV
  have HFR : Hid (frmL vs = true ∧ szL vs ≤ 1099511627776 ∧ acc.length + 12 * szL vs + 400 ≤ 35184372088832 ∧ B ≤ w.heap.size) := ⟨hfr, hsz, hal, hB⟩
  have hmz : m ≤ 1759218604441 := hz
  have hW : Calls Tryz.prog 79 #[.pointer (some ⟨b, 0, none⟩), .int .u8 91] w fun e w' => e = .returned .nilIface ∧ BdP B b (acc ++ [91]) w w' := bdWB B b acc 91 w h (by omega) hB
  obtain ⟨RR, hRR⟩ : ∃ q, acc ++ 91 :: (txtL vs true ++ [93]) = q := ⟨_, rfl⟩
  have HRR : Hid (acc ++ 91 :: (txtL vs true ++ [93]) = RR) := hRR
  rw [hRR]
  simp only [Sl.v]
  clear hRR hv hF hnum hl he hV hfr hsz hal hz h
  go_enter Tryz.func53, Tryz.ntmps53
  go_wp2_with fail
  refine hW.mono ?_
  rintro e w1 ⟨rfl, h1⟩
  clear hW
  go_wp2_with fail
  go_loopw [10] (fun iv wr => ∃ j : Nat, j ≤ m ∧ iv = .int .i64 j ∧ BdP B b (acc ++ 91 :: txtL (vs.take j) true) w wr) (fun iv _ => m - (intOf iv).toNat)
  case atStart => exact ⟨0, Nat.zero_le _, rfl, h1⟩
  case round =>
    clear h1
    obtain ⟨j, hj, rfl, hBI⟩ := hrel
    have hBl := hBI.2.1
    have hI := hBI.1
    obtain ⟨hfr, hsz, hal, hB⟩ := HFR.out
    have hBr : B ≤ wr.heap.size := Nat.le_trans hB hBl.size
    obtain ⟨s1, s2⟩ := HS.out j
    have hlen : (acc ++ 91 :: txtL (vs.take j) true).length ≤ acc.length + 6 * szL (vs.take j) + 1 := by simp; omega
    by_cases hlt : j < m
    · have i1 : (j : Int) < (m : Int) := by omega
      have i0 : (0 : Int) ≤ (j : Int) := by omega
      obtain ⟨hG, hF, hnum, hl, he⟩ := HG.out
      obtain ⟨u, hu⟩ : ∃ q, us[j]? = some q := ⟨_, List.getElem?_eq_getElem (by omega)⟩
      obtain ⟨dd, hdd⟩ : ∃ q, vs[j]? = some q := ⟨_, List.getElem?_eq_getElem (by omega)⟩
      have hGr := isG_keepB (a := ⟨ax, m, ac⟩) hG hF hBl
      obtain ⟨bb, pp, rfl, -, cu⟩ := IsG.spot hGr j (by omega)
      have q1 := cu j u hu
      have hvl := (he j u dd hu hdd).keepB hBl
      have hC := writeComma15_any B b _ j wr hI hBr (by omega)
      have hwr : IntKind.i64.wrap ((j : Int) + 1) = (j : Int) + 1 := by rw [IntKind.wrap_i64]; omega
      have hsn : szL (vs.take (j + 1)) = szL (vs.take j) + szN dd := by
        rw [List.take_add_one, hdd]
        exact szL_snoc dd _
      obtain ⟨t1, t2⟩ := HS.out (j + 1)
      have HT : Hid ((acc ++ 91 :: txtL (vs.take j) true ++ (bif decide (j = 0) then [] else [44])) ++ txtN dd = acc ++ 91 :: txtL (vs.take (j + 1)) true) := by
        show _ = _
        rw [List.take_add_one, hdd]
        simp only [Option.toList_some]
        rw [txtL_snoc]
        have e9 := take_emp (vs := vs) (j := j) (by omega)
        rw [e9]
        simp
      have hz9 := szL_at vs j dd hdd
      have hfd := frmL_at vs j dd hdd hfr
      have hih := ih dd (List.mem_of_getElem? hdd)
      have hlc : ((acc ++ 91 :: txtL (vs.take j) true) ++ (bif decide (j = 0) then [] else [44])).length ≤ acc.length + 6 * szL (vs.take j) + 2 := by
        rw [List.length_append]
        cases decide (j = 0) <;> simp at hlen ⊢ <;> omega
      generalize (acc ++ 91 :: txtL (vs.take j) true) ++ (bif decide (j = 0) then [] else [44]) = X1 at *
      generalize acc ++ 91 :: txtL (vs.take j) true = X0 at *
      clear hu hdd hG hF hnum hl he cu
      go_upto_region 4 with fail
      go_wp2_with fail
      refine hC.mono ?_
      rintro e w2 ⟨rfl, h2⟩
      clear hC q1
      have hb2 := h2.2.1
      have hB2 := hBl.trans hb2
      have hP2 := hBI.trans h2
      have hC2 := hih B b X1 w2 u h2.1 (Nat.le_trans hBr hb2.size) (hvl.keepB hb2) hfd (by omega) (by omega) (fun x hx => HV.out x (hB2.trans hx))
      rw [HT.out] at hC2
      go_wp2_with fail
      refine hC2.mono ?_
      rintro e w3 ⟨rfl, h3⟩
      have hP3 := hP2.trans h3
      clear hC2 h2 h3 hP2 hBI hB2 hb2 hBl hvl hih
      go_wp2
      go_roundw
      case rel => first | exact ⟨j + 1, by omega, by go_num, hP3⟩ | ((repeat apply Exists.intro); refine ⟨⟨j + 1, by omega, ?_, hP3⟩, rfl⟩; go_num)
      case measure => simp [intOf]; omega
    · obtain rfl : j = m := by omega
      have i1 : ¬ (j : Int) < (j : Int) := by omega
      have hW : Calls Tryz.prog 79 #[.pointer (some ⟨b, 0, none⟩), .int .u8 93] wr fun e w' => e = .returned .nilIface ∧ BdP B b ((acc ++ 91 :: txtL (vs.take j) true) ++ [93]) wr w' := bdWB B b _ 93 wr hI (by omega) hBr
      have hRR : (acc ++ 91 :: txtL (vs.take j) true) ++ [93] = RR := by
        obtain ⟨hG, hF, hnum, hl, he⟩ := HG.out
        rw [List.take_of_length_le (by omega), ← HRR.out]
        simp
      rw [hRR] at hW
      clear hRR
      go_wp2_with fail
      refine hW.mono ?_
      rintro e w2 ⟨rfl, h2⟩
      clear hW
      have hP2 := hBI.trans h2
      clear h2
      go_wp2
      go_end0
      exact ⟨rfl, hP2⟩
end Go.Proofs.YtddmmmfpdmejbaaGreatDoor
