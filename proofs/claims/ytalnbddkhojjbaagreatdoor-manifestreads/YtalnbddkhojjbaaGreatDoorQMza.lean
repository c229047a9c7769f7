import Derived.Test.YtalnbddkhojjbaaGreatDoorQJok
import Derived.Test.YtalnbddkhojjbaaGreatDoorQMan7
import Derived.Test.YtalnbddkhojjbaaGreatDoorQDig2
namespace Go.Proofs.YtalnbddkhojjbaaGreatDoor
set_option linter.unusedSimpArgs false
open Go.RowKit

theorem VlG.mono {w : World} {F G : Nat → Prop} {v : Value} {d : Nd} (h : VlG w F v d) (hFG : ∀ b, F b → G b) : VlG w G v d := by
  induction h using VlG.rc with
  | nil k hk => exact .nil k hk
  | null => exact .null
  | bool b => exact .bool b
  | num n hn => exact .num n hn
  | str s => exact .str s
  | list a us ds hv hF hl hz he ih => exact .list a us ds hv (hF.mono hFG) hl hz ih
  | obj ks a kb us ds hk hkF hv hF hl hz he ih => exact .obj ks a kb us ds hk (hkF.mono hFG) hv (hF.mono hFG) hl hz ih
def FdQ (o : Option Nd) (w : World) (e : Ending) (w' : World) : Prop := (∃ v b, e = .returned (.tuple #[v, .bool b]) ∧ (∀ d, o = some d → b = true ∧ VlG w' (w.heap.size ≤ ·) v d) ∧ (o = none → b = false ∧ v = .nilIface)) ∧ Below w.heap.size w w'
def FldOk : Prop := ∀ (d : Nd) (F : Nat → Prop) (v : Value) (s : ByteArray) (w : World), VlG w F v d → depN d ≤ 60000 → Calls Tryz.prog 38 #[v, .string s] w fun e w' => FdQ (fldN d (lS s)) w e w'
def numO : Option Nd → Int × Bool
  | some x => if x.kd = 3 then (x.nn, true) else (0, false)
  | none => (0, false)
theorem numO_no (d : Nd) (h : d.kd ≠ 3) : numO (some d) = (0, false) := if_neg h
theorem numO_yes (n : Int) : numO (some (.mk 3 n [] [] [])) = (n, true) := rfl
set_option maxRecDepth 100000 in
set_option maxHeartbeats 4000000 in
theorem number16_any (hF : FldOk) (d : Nd) (F : Nat → Prop) (v : Value) (s : ByteArray) (w : World) (hv : VlG w F v d) (hd : depN d ≤ 60000) : Calls Tryz.prog 36 #[v, .string s] w fun e w' => e = .returned (.tuple #[.int .i64 (numO (fldN d (lS s))).1, .bool (numO (fldN d (lS s))).2]) ∧ Below w.heap.size w w' := by
  have hf := hF d F v s w hv hd
  obtain ⟨O, hO⟩ : ∃ q, fldN d (lS s) = q := ⟨_, rfl⟩
  rw [hO] at hf ⊢
  clear hO hv hd
  obtain ⟨⟨n9, b9⟩, hP9⟩ : ∃ q, numO O = q := ⟨_, rfl⟩
  have HP : Hid (numO O = (n9, b9)) := hP9
  rw [hP9]
  simp only
  clear hP9
  unfold FdQ at hf
  go_enter Tryz.func36, Tryz.ntmps36
  go_wp2_with fail
  refine hf.mono ?_
  rintro e w1 ⟨⟨x, b, rfl, hy, hno⟩, hb1⟩
  clear hf
  cases O with
  | none =>
    obtain ⟨rfl, rfl⟩ := hno rfl
    clear hy hno
    have h9 := HP.out
    rw [show numO none = (0, false) from rfl] at h9
    cases h9
    go_wp2
    go_ret2
    exact ⟨rfl, hb1⟩
  | some dd =>
    obtain ⟨rfl, hx⟩ := hy dd rfl
    clear hy hno
    have h9 := HP.out
    clear HP
    cases hx using VlG.rc with
    | nil k hk =>
      rw [numO_no _ (fun h => hk (by have h9 : k = 3 := h; omega))] at h9
      cases h9
      go_wp2
      go_ret2
      exact ⟨rfl, hb1⟩
    | null =>
      rw [numO_no _ (by decide)] at h9
      cases h9
      go_wp2
      go_ret2
      exact ⟨rfl, hb1⟩
    | bool b =>
      rw [numO_no _ (by show (2 : Int) ≠ 3; decide)] at h9
      cases h9
      go_wp2
      go_ret2
      exact ⟨rfl, hb1⟩
    | num n hn =>
      rw [numO_yes] at h9
      cases h9
      go_wp2
      go_ret2
      exact ⟨rfl, hb1⟩
    | str t =>
      rw [numO_no _ (by show (4 : Int) ≠ 3; decide)] at h9
      cases h9
      go_wp2
      go_ret2
      exact ⟨rfl, hb1⟩
    | list a us ds hv hF hl hz he r9 =>
      clear r9
      rw [numO_no _ (by show (5 : Int) ≠ 3; decide)] at h9
      cases h9
      obtain ⟨ax, an, ac⟩ := a
      simp only [Sl.v]
      clear hv hF hl hz he
      go_wp2
      go_ret2
      exact ⟨rfl, hb1⟩
    | obj ks a kb us ds hk hkF hv hF hl hz he r9 =>
      clear r9
      rw [numO_no _ (by show (6 : Int) ≠ 3; decide)] at h9
      cases h9
      obtain ⟨ax, an, ac⟩ := a
      obtain ⟨kx, kn, kc⟩ := ks
      simp only [Sl.v]
      clear hv hF hl hz he hk hkF
      go_wp2
      go_ret2
      exact ⟨rfl, hb1⟩
def szB (n : Int) : Bool := decide (0 ≤ n) && decide (n ≤ 2147483647)
theorem isSize16_any (n : Int) (w : World) : Calls Tryz.prog 37 #[.int .i64 n] w fun e w' => e = .returned (.bool (szB n)) ∧ w' = w := by
  by_cases h0 : 0 ≤ n
  · by_cases h1 : n ≤ 2147483647
    · have HS : Hid (szB n = true) := by show _ = _; unfold szB; rw [decide_eq_true h0, decide_eq_true h1]; rfl
      go_enter Tryz.func37, Tryz.ntmps37
      go_wp2
      go_ret
      rw [HS.out]
      exact ⟨by simp [h0, h1], rfl⟩
    · have HS : Hid (szB n = false) := by show _ = _; unfold szB; rw [decide_eq_false h1, Bool.and_false]
      go_enter Tryz.func37, Tryz.ntmps37
      go_wp2
      go_ret
      rw [HS.out]
      exact ⟨by simp [h0, h1], rfl⟩
  · have HS : Hid (szB n = false) := by show _ = _; unfold szB; rw [decide_eq_false h0, Bool.false_and]
    go_enter Tryz.func37, Tryz.ntmps37
    go_wp2
    go_ret
    rw [HS.out]
    exact ⟨by simp [h0], rfl⟩
end Go.Proofs.YtalnbddkhojjbaaGreatDoor
namespace Go.Proofs.YtalnbddkhojjbaaGreatDoor
open Go.RowKit

theorem dsc_size_no (d : Nd) (h : (numO (fldN d kS)).2 = false ∨ szB (numO (fldN d kS)).1 = false) : dscN d = none := by
  refine dscN_no d fun x y h1 h2 h3 => ?_
  have e : numO (some y) = (y.nn, true) := if_pos h3.2.1
  rw [h2, e] at h
  rcases h with h | h
  · cases h
  · unfold szB at h
    simp only at h
    rw [decide_eq_true h3.2.2.1, decide_eq_true h3.2.2.2.1] at h
    cases h
theorem dsc_size_yes (d : Nd) (h : (numO (fldN d kS)).2 = true) : ∃ y, fldN d kS = some y ∧ y.kd = 3 ∧ (numO (fldN d kS)).1 = y.nn := by
  cases hy : fldN d kS with
  | none => rw [hy] at h; cases h
  | some y =>
    rw [hy] at h
    by_cases h3 : y.kd = 3
    · exact ⟨y, rfl, h3, by rw [show numO (some y) = (y.nn, true) from if_pos h3]⟩
    · rw [numO_no y h3] at h; cases h
def strO : Option Nd → List UInt8 × Bool
  | some x => if x.kd = 4 then (x.ss, true) else ([], false)
  | none => ([], false)
theorem strO_no (d : Nd) (h : d.kd ≠ 4) : strO (some d) = ([], false) := if_neg h
set_option linter.unusedSimpArgs false in
set_option maxRecDepth 100000 in
set_option maxHeartbeats 8000000 in
theorem descriptor16_any (hF : FldOk) (hP : ParseOk) (d : Nd) (F : Nat → Prop) (v : Value) (w : World) (hv : VlG w F v d) (hd : depN d ≤ 60000) : Calls Tryz.prog 18 #[v] w fun e w' => DsP d w e w' := by
  obtain ⟨n0, hn0⟩ : ∃ q, w.heap.size = q := ⟨_, rfl⟩
  have bA := below_alloc w (.cells (dcA dcZ) 35)
  have r2 := RowC.new w (dcA dcZ) 35
  rw [hn0] at r2
  go_enter Tryz.func18, Tryz.ntmps18
  go_upto_region 1 with fail
  have HV : Hid (VlG (w.alloc (.cells (dcA dcZ) 35)) F v d) := hv.kept bA
  rw [hn0] at bA
  generalize w.alloc (.cells (dcA dcZ) 35) = Y at r2 bA HV ⊢
  clear hv
  have hg2 : n0 ≤ n0 := Nat.le_refl _
  have hN := number16_any hF d F v ⟨#[115, 105, 122, 101]⟩ Y HV.out hd
  rw [show lS ⟨#[115, 105, 122, 101]⟩ = kS from rfl] at hN
  obtain ⟨⟨sz, ok⟩, hpr⟩ : ∃ q, numO (fldN d kS) = q := ⟨_, rfl⟩
  have HPR : Hid (numO (fldN d kS) = (sz, ok)) := hpr
  rw [hpr] at hN
  simp only at hN
  clear hpr
  go_wp2_with fail
  refine hN.mono ?_
  rintro e w1 ⟨rfl, hb1⟩
  clear hN
  have HV : Hid (VlG w1 F v d) := VlG.kept HV.out hb1
  have r2 := r2.kept hb1
  have hBZ : Below n0 w w1 := bA.trans (hb1.mono (by have := bA.size; omega))
  clear hb1 bA
  obtain ⟨p1, p2⟩ := id r2
  have p3 : (rowAt w1 n0).size = 33 := by rw [p2]; exact dcA_size _
  cases ok with
  | false =>
    have HP : Hid _ := ds_no (dsc_size_no d (.inl (by rw [HPR.out]))) hBZ hn0 hg2
    clear HPR HV
    go_wp2
    exact dc_bodyPost2 2 3 n0 (dcA dcZ) rfl rfl rfl (RowC.setRow r2 _) (dcA_size _) (by exact HP.out)
  | true =>
    have hS := isSize16_any sz w1
    obtain ⟨sb, hsb⟩ : ∃ q, szB sz = q := ⟨_, rfl⟩
    have HSB : Hid (szB sz = sb) := hsb
    rw [hsb] at hS
    clear hsb
    cases sb with
    | false =>
      have HP : Hid _ := ds_no (dsc_size_no d (.inr (by rw [HPR.out]; exact HSB.out))) hBZ hn0 hg2
      clear HPR HV HSB
      go_wp2_with fail
      refine hS.mono ?_
      rintro e w2 ⟨rfl, rfl⟩
      clear hS
      go_wp2
      exact dc_bodyPost2 2 3 n0 (dcA dcZ) rfl rfl rfl (RowC.setRow r2 _) (dcA_size _) (by exact HP.out)
    | true =>
      have HY : Hid (∃ y, fldN d kS = some y ∧ y.kd = 3 ∧ sz = y.nn) := by
        obtain ⟨y, e1, e2, e3⟩ := dsc_size_yes d (by rw [HPR.out])
        rw [HPR.out] at e3
        exact ⟨y, e1, e2, e3⟩
      have HR : Hid (0 ≤ sz ∧ sz ≤ 2147483647) := by
        have h9 := HSB.out
        unfold szB at h9
        rw [Bool.and_eq_true, decide_eq_true_eq, decide_eq_true_eq] at h9
        exact h9
      clear HPR HSB
      go_wp2_with fail
      refine hS.mono ?_
      rintro e w2 ⟨rfl, rfl⟩
      clear hS
      have hFd := hF d F v ⟨#[100, 105, 103, 101, 115, 116]⟩ w2 HV.out hd
      rw [show lS ⟨#[100, 105, 103, 101, 115, 116]⟩ = kD from rfl] at hFd
      obtain ⟨O, hO⟩ : ∃ q, fldN d kD = q := ⟨_, rfl⟩
      have HO : Hid (fldN d kD = O) := hO
      rw [hO] at hFd
      clear hO p1 p2 p3
      unfold FdQ at hFd
      go_wp2_with fail
      refine hFd.mono ?_
      rintro e w3 ⟨⟨x, b, rfl, hy, hno⟩, hb3⟩
      clear hFd
      have r2 := r2.kept hb3
      have hBZ : Below n0 w w3 := hBZ.trans (hb3.mono (by have := hBZ.size; omega))
      clear hb3 HV
      have hT : ∃ t ok, (Instr.typeAssert x 42 93 true).run Tryz.prog w3 = .ok (.tuple #[.string t, .bool ok]) w3 ∧ (lS t, ok) = strO O := by
        cases O with
        | none =>
          obtain ⟨-, rfl⟩ := hno rfl
          exact ⟨_, _, ta_nil_Str w3, rfl⟩
        | some dd =>
          obtain ⟨-, hx⟩ := hy dd rfl
          cases hx using VlG.rc with
          | nil k hk => exact ⟨_, _, ta_nil_Str w3, by rw [strO_no _ (fun h => hk (by have h9 : k = 4 := h; omega))]; rfl⟩
          | null => exact ⟨_, _, ta_Null_Str _ w3, rfl⟩
          | bool b => exact ⟨_, _, ta_Bool_Str _ w3, rfl⟩
          | num n hn => exact ⟨_, _, ta_Num_Str _ w3, rfl⟩
          | str s => exact ⟨_, _, ta_Str_Str _ w3, rfl⟩
          | list a us ds hv hF hl hz he r9 => clear r9; exact ⟨_, _, ta_List_Str _ w3, rfl⟩
          | obj ks a kb us ds hk hkF hv hF hl hz he r9 => clear r9; exact ⟨_, _, ta_Object_Str _ w3, rfl⟩
      obtain ⟨t, ok, hT, hTO⟩ := hT
      have HT : Hid ((lS t, ok) = strO O) := hTO
      clear hy hno hTO
      have hPz := hP (lS t) w3
      rw [show (⟨(lS t).toArray⟩ : ByteArray) = t from lS_inj (lS_mk _)] at hPz
      go_wp2_with fail
      refine hPz.mono ?_
      rintro e w5 ⟨⟨dg, ec, rfl, hpd⟩, hb5⟩
      clear hPz hT
      have hb6 := below_alloc w5 (.cells (dg_secA dg) 33)
      have hbz : Below w3.heap.size w3 (w5.alloc (.cells (dg_secA dg) 33)) := hb5.trans (hb6.mono hb5.size)
      have r2 := r2.kept hbz
      have hBZ : Below n0 w (w5.alloc (.cells (dg_secA dg) 33)) := hBZ.trans (hbz.mono (by have := hBZ.size; omega))
      obtain ⟨p1, p2⟩ := id r2
      have p3 : (rowAt (w5.alloc (.cells (dg_secA dg) 33)) n0).size = 33 := by rw [p2]; exact dcA_size _
      clear hb5 hb6 hbz
      cases ok with
      | false =>
        have HP : Hid _ := ds_no (dscN_no d (fun x y h1 h2 h3 => by
          have h9 := HT.out
          rw [← HO.out, h1, show strO (some x) = (x.ss, true) from if_pos h3.1] at h9
          exact absurd (Prod.mk.inj h9).2 (by decide))) hBZ hn0 hg2
        clear HT HO HY HR hpd
        go_wp2
        exact dc_bodyPost2 2 3 n0 (dcA dcZ) rfl rfl rfl (RowC.setRow r2 _) (dcA_size _) (by exact HP.out)
      | true =>
        have HX : Hid (∃ x, fldN d kD = some x ∧ x.kd = 4 ∧ x.ss = lS t) := by
          have h9 := HT.out
          cases hO : O with
          | none => rw [hO] at h9; exact absurd (Prod.mk.inj (show (lS t, true) = (([] : List UInt8), false) from h9)).2 (by decide)
          | some x =>
            rw [hO] at h9
            by_cases h4 : x.kd = 4
            · rw [show strO (some x) = (x.ss, true) from if_pos h4] at h9
              exact ⟨x, by rw [HO.out, hO], h4, (Prod.mk.inj h9).1.symm⟩
            · rw [strO_no x h4] at h9; exact absurd (Prod.mk.inj h9).2 (by decide)
        clear HT HO
        rcases hpd with ⟨hpg, rfl, rfl⟩ | ⟨hpg, rfl, rfl⟩
        · have HP : Hid (DsP d w (.returned (.tuple #[.agg (dcA ⟨pval (lS t), sz⟩), .bool true])) ((w5.alloc (.cells (dg_secA (pval (lS t))) 33)).setRow n0 (dcA ⟨pval (lS t), sz⟩))) := by
            obtain ⟨y, e1, e2, e3⟩ := HY.out
            obtain ⟨x, f1, f2, f3⟩ := HX.out
            have hds : dscN d = some ⟨pval (lS t), sz⟩ := by
              rw [dscN_yes d x y f1 e1 ⟨f2, e2, by rw [← e3]; exact HR.out.1, by rw [← e3]; exact HR.out.2, by rw [f3]; exact hpg⟩, f3, e3]
            exact ⟨⟨_, _, rfl, fun y h9 => by rw [hds] at h9; cases h9; exact ⟨rfl, rfl⟩, fun h9 => by rw [hds] at h9; cases h9⟩, by rw [hn0]; exact below_row14 hBZ hg2 _⟩
          clear HX HY HR hpg
          go_wp2
          exact dc_bodyPost2 2 3 n0 _ rfl rfl rfl (RowC.setRow r2 _) (dcA_size _) (by exact HP.out)
        · have HP : Hid _ := ds_no (dscN_no d (fun x y h1 h2 h3 => hpg (by
            obtain ⟨x9, f1, -, f3⟩ := HX.out
            rw [h1] at f1
            cases f1
            rw [← f3]
            exact h3.2.2.2.2))) hBZ hn0 hg2
          clear HX HY HR hpg
          go_wp2
          exact dc_bodyPost2 2 3 n0 (dcA dcZ) rfl rfl rfl (RowC.setRow r2 _) (dcA_size _) (by exact HP.out)
end Go.Proofs.YtalnbddkhojjbaaGreatDoor
