import Derived.Test.YtalnbddkhojjbaaGreatDoorQMzc
import Derived.Test.YtalnbddkhojjbaaGreatDoorQJma
import Derived.Test.YtalnbddkhojjbaaGreatDoorQManB
import Derived.Deep.QuietTactic
import Derived.BigQuiet
namespace Go.Proofs.YtalnbddkhojjbaaGreatDoor
set_option linter.unusedSimpArgs false
open Go.RowKit

theorem VlG.andLt {w : World} {F : Nat → Prop} {v : Value} {d : Nd} (h : VlG w F v d) : VlG w (fun b => F b ∧ b < w.heap.size) v d := by
  have hl : ∀ (a : Sl) (xs : List Value), IsG w a.v xs → a.In (· < w.heap.size) := fun a xs hv h0 p hp => by
    have hnum := IsG.num hv
    obtain ⟨ax, an, ac⟩ := a
    simp only at hnum h0 hp
    obtain ⟨b, o, hx, hb, -⟩ := IsG.spot (w := w) (x := ax) (n := an) (c := ac) hv 0 (by omega)
    rw [hx] at hp
    cases hp
    exact hb
  induction h using VlG.rc with
  | nil k hk => exact .nil k hk
  | null => exact .null
  | bool b => exact .bool b
  | num n hn => exact .num n hn
  | str s => exact .str s
  | list a us ds hv hF hl' hz he ih => exact .list a us ds hv (hF.and (hl a us hv)) hl' hz ih
  | obj ks a kb us ds hk hkF hv hF hl' hz he ih => exact .obj ks a kb us ds hk (hkF.and (hl ks _ hk)) hv (hF.and (hl a us hv)) hl' hz ih
def kdN (d : Nd) : Int := if (numO (fldN d kV)).1 ≠ 2 then 0 else if (fldN d kL16).isSome = (fldN d kM).isSome then 0 else if (fldN d kL16).isSome then 1 else 2
set_option maxRecDepth 100000 in
set_option maxHeartbeats 8000000 in
theorem kindOf16_any (hF : FldOk) (d : Nd) (F : Nat → Prop) (v : Value) (w : World) (hv : VlG w F v d) (hd : depN d ≤ 60000) : Calls Tryz.prog 19 #[v] w fun e w' => e = .returned (.int .i64 (kdN d)) ∧ Below w.heap.size w w' := by
  have hN := number16_any hF d F v ⟨#[115, 99, 104, 101, 109, 97, 86, 101, 114, 115, 105, 111, 110]⟩ w hv hd
  rw [show lS ⟨#[115, 99, 104, 101, 109, 97, 86, 101, 114, 115, 105, 111, 110]⟩ = kV from rfl] at hN
  obtain ⟨K, hK⟩ : ∃ q, kdN d = q := ⟨_, rfl⟩
  have HK : Hid (kdN d = K) := hK
  rw [hK]
  clear hK
  obtain ⟨⟨n9, b9⟩, hP9⟩ : ∃ q, numO (fldN d kV) = q := ⟨_, rfl⟩
  have HP9 : Hid (numO (fldN d kV) = (n9, b9)) := hP9
  rw [hP9] at hN
  simp only at hN
  clear hP9
  go_enter Tryz.func19, Tryz.ntmps19
  go_wp2_with fail
  refine hN.mono ?_
  rintro e w1 ⟨rfl, hb1⟩
  clear hN
  have hL := hF d F v ⟨#[108, 97, 121, 101, 114, 115]⟩ w1 (hv.kept hb1) hd
  rw [show lS ⟨#[108, 97, 121, 101, 114, 115]⟩ = kL16 from rfl] at hL
  unfold FdQ at hL
  go_wp2_with fail
  refine hL.mono ?_
  rintro e w2 ⟨⟨x2, b2, rfl, hy2, hn2⟩, hb2⟩
  clear hL
  have hB2 : Below w.heap.size w w2 := hb1.trans (hb2.mono hb1.size)
  have hM := hF d F v ⟨#[109, 97, 110, 105, 102, 101, 115, 116, 115]⟩ w2 (hv.kept hB2) hd
  rw [show lS ⟨#[109, 97, 110, 105, 102, 101, 115, 116, 115]⟩ = kM from rfl] at hM
  unfold FdQ at hM
  have HL : Hid (b2 = (fldN d kL16).isSome) := by
    show _ = _
    cases h9 : fldN d kL16 with
    | none => exact (hn2 h9).1
    | some y => exact (hy2 y h9).1
  clear hy2 hn2 hv hd
  go_wp2_with fail
  refine hM.mono ?_
  rintro e w3 ⟨⟨x3, b3, rfl, hy3, hn3⟩, hb3⟩
  clear hM
  have HM : Hid (b3 = (fldN d kM).isSome) := by
    show _ = _
    cases h9 : fldN d kM with
    | none => exact (hn3 h9).1
    | some y => exact (hy3 y h9).1
  have HB : Hid (Below w.heap.size w w3) := hB2.trans (hb3.mono hB2.size)
  clear hy3 hn3 hb1 hb2 hb3 hB2
  have HKE : Hid (K = if n9 ≠ 2 then 0 else if b2 = b3 then 0 else if b2 then 1 else 2) := by
    show _ = _
    rw [← HK.out, HL.out, HM.out]
    unfold kdN
    rw [HP9.out]
  clear HK HL HM HP9
  by_cases h2 : n9 = 2
  · subst h2
    cases b2 with
    | false =>
      cases b3 with
      | false =>
        have hK : K = 0 := HKE.out
        subst hK
        go_wp2
        go_ret
        exact ⟨rfl, HB.out⟩
      | true =>
        have hK : K = 2 := HKE.out
        subst hK
        go_wp2
        go_ret
        exact ⟨rfl, HB.out⟩
    | true =>
      cases b3 with
      | false =>
        have hK : K = 1 := HKE.out
        subst hK
        go_wp2
        go_ret
        exact ⟨rfl, HB.out⟩
      | true =>
        have hK : K = 0 := HKE.out
        subst hK
        go_wp2
        go_ret
        exact ⟨rfl, HB.out⟩
  · have hK : K = 0 := by rw [HKE.out, if_pos h2]
    subst hK
    have f2 : (n9 != 2) = true := by rw [bne_iff_ne]; exact h2
    have f2' : (n9 == 2) = false := beq_eq_false_iff_ne.2 h2
    go_wp2
    go_ret
    exact ⟨rfl, HB.out⟩
def gaM (d : Nd) (k : Int) : Option (List Dc) :=
  if k = 1 then (match fldN d kC, fldN d kL16 with
    | some c, some y => (match dscN c, dscL y with
      | some x, some L => if L.length + 1 ≤ 32 then some (x :: L) else none
      | _, _ => none)
    | _, _ => none)
  else if k = 2 then (match fldN d kM with
    | some y => (match dscL y with
      | some L => if L.length ≤ 32 then some L else none
      | none => none)
    | none => none)
  else none
def GqQ (gn B : Nat) (X : Nat → Prop) (d : Nd) (k : Int) (w : World) (e : Ending) (w' : World) : Prop := ∃ b, e = .returned (.bool b) ∧ Kx X w w' ∧ (b = true → ∃ L, gaM d k = some L ∧ GaS gn B X w' L) ∧ (b = false → gaM d k = none)
set_option maxRecDepth 100000 in
set_option maxHeartbeats 8000000 in
theorem gatherAll16_any (hF : FldOk) (hP : ParseOk) (gn B : Nat) (X : Nat → Prop) (d : Nd) (k : Int) (F : Nat → Prop) (v : Value) (w : World) (hv : VlG w F v d) (hd : depN d ≤ 60000) (hdf : ∀ key c, fldN d key = some c → depN c ≤ 60000) (hFX : ∀ b, F b → b < w.heap.size → X b) (hG : GaS gn B X w []) :
    Calls Tryz.prog 20 #[.int .i64 k, v, .func (.func 17) #[] #[.pointer (some ⟨gn, 0, none⟩)]] w fun e w' => GqQ gn B X d k w e w' := by
  by_cases h1 : k = 1
  · subst h1
    have hC := gatherField16_any hF hP gn B X d F v ⟨#[99, 111, 110, 102, 105, 103]⟩ kC rfl [] w hv hd (hdf kC) hG (by simp)
    unfold GfQ at hC
    go_enter Tryz.func20, Tryz.ntmps20
    go_wp2_with fail
    refine hC.mono ?_
    rintro e w1 ⟨b, rfl, hK1, hy, hn⟩
    clear hC
    cases b with
    | false =>
      have HN : Hid (gaM d 1 = none) := by
        show _ = _
        unfold gaM
        rw [if_pos rfl]
        cases h9 : fldN d kC with
        | none => rfl
        | some c =>
          cases h8 : fldN d kL16 with
          | none => rfl
          | some y =>
            rcases hn rfl c h9 with h7 | h7
            · simp only; rw [h7]
            · simp at h7
      clear hy hn hG hv hFX hdf
      go_wp2
      go_ret
      exact ⟨false, rfl, hK1, fun h => (by cases h), fun _ => HN.out⟩
    | true =>
      obtain ⟨c, x, e1, e2, e3, e4⟩ := hy rfl
      have hv1 : VlG w1 F v d := hv.ag (fun b hb hlt => hK1.block b (hFX b hb hlt))
      have hL := gatherList16_any hF hP gn B X d F v ⟨#[108, 97, 121, 101, 114, 115]⟩ kL16 rfl ([] ++ [x]) w1 hv1 hd (hdf kL16) e4 (by simp)
      unfold GlQ at hL
      have HE : Hid (fldN d kC = some c ∧ dscN c = some x) := ⟨e1, e2⟩
      clear hy hn hG hv hFX hdf hv1 e1 e2 e3 e4
      go_wp2_with fail
      refine hL.mono ?_
      rintro e w2 ⟨b, rfl, hK2, hy, hn⟩
      clear hL
      have HK : Hid (Kx X w w2) := hK1.trans hK2
      go_wp2
      go_ret
      refine ⟨b, rfl, HK.out, fun hb => ?_, fun hb => ?_⟩
      · obtain ⟨y, L, q1, q2, q3, q4⟩ := hy hb
        refine ⟨x :: L, ?_, q4⟩
        unfold gaM
        rw [if_pos rfl, HE.out.1, q1]
        simp only
        rw [HE.out.2, q2]
        simp only
        rw [if_pos (by simp at q3; omega)]
      · unfold gaM
        rw [if_pos rfl, HE.out.1]
        cases h8 : fldN d kL16 with
        | none => rfl
        | some y =>
          simp only
          rw [HE.out.2]
          rcases hn hb y h8 with h7 | ⟨L, h7, h6⟩
          · rw [h7]
          · rw [h7]
            simp only
            rw [if_neg (by simp at h6; omega)]
  · have f1 : (k == 1) = false := beq_eq_false_iff_ne.2 h1
    by_cases h2 : k = 2
    · subst h2
      have hL := gatherList16_any hF hP gn B X d F v ⟨#[109, 97, 110, 105, 102, 101, 115, 116, 115]⟩ kM rfl [] w hv hd (hdf kM) hG (by simp)
      unfold GlQ at hL
      clear f1 h1 hG hv hFX hdf
      go_enter Tryz.func20, Tryz.ntmps20
      go_wp2_with fail
      refine hL.mono ?_
      rintro e w2 ⟨b, rfl, hK2, hy, hn⟩
      clear hL
      go_wp2
      go_ret
      refine ⟨b, rfl, hK2, fun hb => ?_, fun hb => ?_⟩
      · obtain ⟨y, L, q1, q2, q3, q4⟩ := hy hb
        refine ⟨L, ?_, q4⟩
        unfold gaM
        rw [if_neg (by decide), if_pos rfl, q1]
        simp only
        rw [q2]
        simp only
        rw [if_pos (by simpa using q3)]
      · unfold gaM
        rw [if_neg (by decide), if_pos rfl]
        cases h8 : fldN d kM with
        | none => rfl
        | some y =>
          simp only
          rcases hn hb y h8 with h7 | ⟨L, h7, h6⟩
          · rw [h7]
          · rw [h7]
            simp only
            rw [if_neg (by simpa using h6)]
    · have f2 : (k == 2) = false := beq_eq_false_iff_ne.2 h2
      have HN : Hid (gaM d k = none) := by show _ = _; unfold gaM; rw [if_neg h1, if_neg h2]
      clear h1 h2 hG hv hFX hdf
      go_enter Tryz.func20, Tryz.ntmps20
      go_wp2
      go_ret
      exact ⟨false, rfl, Kx.refl _ _, fun h => (by cases h), fun _ => HN.out⟩
theorem fldN_six (d : Nd) (key : List UInt8) (h : (fldN d key).isSome = true) : d.kd = 6 := by
  obtain ⟨k, n, s, ks, vs⟩ := d
  rw [fldN] at h
  split at h
  · assumption
  · cases h
theorem numO_six (d : Nd) (key : List UInt8) (n : Int) (hn : n ≠ 0) (h : (numO (fldN d key)).1 = n) : ∃ v, fldN d key = some v ∧ v.kd = 3 ∧ v.nn = n := by
  cases hv : fldN d key with
  | none => rw [hv] at h; exact absurd h.symm hn
  | some v =>
    rw [hv] at h
    by_cases h3 : v.kd = 3
    · rw [show numO (some v) = (v.nn, true) from if_pos h3] at h
      exact ⟨v, rfl, h3, h⟩
    · rw [numO_no v h3] at h; exact absurd h.symm hn
theorem rd_math (d : Nd) : mrN d = (match gaM d (kdN d) with
    | some L => (kdN d, L)
    | none => (0, [])) := by
  by_cases hv : (numO (fldN d kV)).1 = 2
  · obtain ⟨v, h1, h2, h3⟩ := numO_six d kV 2 (by decide) hv
    have h6 : d.kd = 6 := fldN_six d kV (by rw [h1]; rfl)
    have hA : mrN d = mrB d := by
      unfold mrN mrA
      rw [if_neg (fun h9 => h9 h6), h1]
      exact if_neg (fun h9 => h9.elim (fun h8 => h8 h2) (fun h8 => h8 h3))
    rw [hA]
    have hk : kdN d = if (fldN d kL16).isSome = (fldN d kM).isSome then 0 else if (fldN d kL16).isSome then 1 else 2 := by unfold kdN; rw [if_neg (fun h9 => h9 hv)]
    unfold mrB
    cases hL : fldN d kL16 with
    | none =>
      cases hM : fldN d kM with
      | none =>
        rw [hL, hM] at hk
        rw [hk]
        rfl
      | some m =>
        rw [hL, hM] at hk
        have hk2 : kdN d = 2 := hk
        rw [hk2]
        unfold gaM
        rw [if_neg (by decide), if_pos rfl, hM]
        simp only
        unfold mrM
        cases hm : dscL m with
        | none => rfl
        | some L =>
          simp only
          by_cases h32 : 32 < L.length
          · rw [if_pos h32, if_neg (by omega)]
          · rw [if_neg h32, if_pos (by omega)]
    | some y =>
      cases hM : fldN d kM with
      | some m =>
        rw [hL, hM] at hk
        have hk0 : kdN d = 0 := hk
        rw [hk0]
        rfl
      | none =>
        rw [hL, hM] at hk
        have hk1 : kdN d = 1 := hk
        rw [hk1]
        unfold gaM
        rw [if_pos rfl, hL]
        cases hC : fldN d kC with
        | none => rfl
        | some c =>
          simp only
          unfold mrL
          cases h8 : dscN c with
          | none => rfl
          | some x =>
            cases h9 : dscL y with
            | none => rfl
            | some L =>
              simp only
              by_cases h32 : 32 ≤ L.length
              · rw [if_pos h32, if_neg (by omega)]
              · rw [if_neg h32, if_pos (by omega)]
  · have hk : kdN d = 0 := by unfold kdN; rw [if_pos hv]
    rw [hk, show gaM d 0 = none by unfold gaM; rw [if_neg (by decide), if_neg (by decide)]]
    simp only
    unfold mrN mrA
    by_cases h6 : d.kd = 6
    · rw [if_neg (fun h9 => h9 h6)]
      cases h1 : fldN d kV with
      | none => rfl
      | some v =>
        simp only
        rw [if_pos]
        rw [h1] at hv
        by_cases h3 : v.kd = 3
        · rw [show numO (some v) = (v.nn, true) from if_pos h3] at hv
          exact .inr hv
        · exact .inl h3
    · rw [if_pos h6]
theorem mRd_ok (l : List UInt8) (h : (prsA l).2.1 = 0) : mRd l = mrN (prsA l).1 := by
  unfold mRd
  have hlen : ¬ 4096 < l.length := fun h9 => by
    have hE : cutE l = 2 := by unfold cutE; rw [if_pos h9]
    unfold prsA at h
    rw [hE, if_neg (by decide)] at h
    exact absurd h (by show (2 : Int) ≠ 0; decide)
  rw [if_neg hlen, if_neg (fun h9 => h9 h)]
theorem fldN_dep16 (d x : Nd) (key : List UInt8) (h : fldN d key = some x) : depN x ≤ depN d := by
  have hm : ∀ (ks : List (List UInt8)) (vs : List Nd), fldK key ks vs = some x → x ∈ vs := by
    intro ks
    induction ks with
    | nil => intro vs h; cases vs <;> cases h
    | cons a ks ih =>
      intro vs h
      cases vs with
      | nil => cases h
      | cons b vs =>
        rw [fldK] at h
        split at h
        · cases h; exact List.mem_cons_self
        · exact List.mem_cons_of_mem _ (ih vs h)
  obtain ⟨k, n, s, ks, vs⟩ := d
  rw [fldN] at h
  split at h
  · rename_i hk
    have h1 := depL_in vs x (hm ks vs h)
    rw [depN_mk, if_pos (.inr hk)]
    omega
  · cases h
set_option maxRecDepth 100000 in
set_option maxHeartbeats 8000000 in
theorem read16_any {V : World → Prop} (O : JsOk V) (hF : FldOk) (hP : ParseOk) (l : List UInt8) (x : Option Addr) (n c : Nat) (w : World) (hn : l.length = n) (hnc : n ≤ c) (hn47 : n ≤ 140737488355328) (hl : IsB w (.slice x n c) l) (hV : V w) : Calls Tryz.prog 8 #[.slice x n c] w fun e w' => RdP16 l w e w' := by
  have hp := O.prs l x n c w hn hnc hn47 hl hV
  have hgd := read_good l
  have hmr := mRd_ok l
  have hmb := mRd_bad l
  unfold JpP at hp
  obtain ⟨⟨d, E, P⟩, hR⟩ : ∃ q, prsA l = q := ⟨_, rfl⟩
  rw [hR] at hp hgd hmr hmb
  simp only at hp hgd hmr hmb
  clear hR hV hl hn hnc hn47
  go_enter Tryz.func8, Tryz.ntmps8
  go_wp2_with fail
  refine hp.mono ?_
  rintro e w1 ⟨v, rfl, hy, hno, hb1⟩
  clear hp
  by_cases hE : E = 0
  · subst hE
    have hv := (hy rfl).g
    have hdep : depN d ≤ 60000 := by have := (hgd rfl).2; omega
    have HM : Hid (mRd l = mrN d) := hmr rfl
    clear hy hno hgd hmr hmb
    obtain ⟨gn, hgn⟩ : ∃ q, w1.heap.size = q := ⟨_, rfl⟩
    have bA := below_alloc w1 (.cells #[.slice none 0 0] 22)
    have rA := RowC.new w1 #[.slice none 0 0] 22
    rw [hgn] at rA
    go_upto_region 6 with fail
    have hv2 := hv.kept bA
    have hsz : (w1.alloc (.cells #[.slice none 0 0] 22)).heap.size = gn + 1 := by rw [alloc_sz15, hgn]
    have hBw : Below w.heap.size w (w1.alloc (.cells #[.slice none 0 0] 22)) := hb1.trans (bA.mono hb1.size)
    have hs1 : w.heap.size ≤ gn := by rw [← hgn]; exact hb1.size
    have hv3 : VlG (w1.alloc (.cells #[.slice none 0 0] 22)) (· < gn) v d := by
      refine (VlG.kept (hv.andLt) bA).mono (fun b hb => by rw [← hgn]; exact hb.2)
    generalize w1.alloc (.cells #[.slice none 0 0] 22) = W at rA hv2 hv3 hsz hBw ⊢
    clear bA hb1 hv hv2 hgn
    have hkd := kindOf16_any hF d _ v W hv3 hdep
    obtain ⟨K, hK⟩ : ∃ q, kdN d = q := ⟨_, rfl⟩
    have HK : Hid (kdN d = K) := hK
    rw [hK] at hkd
    clear hK
    go_wp2_with fail
    refine hkd.mono ?_
    rintro e w2 ⟨rfl, hb2⟩
    clear hkd
    have hG : GaS gn (gn + 1) (· < gn) w2 [] := ⟨none, 0, 0, rA.kept hb2, OwnK.nil _ _ _, by omega, by have := hb2.size; omega, fun b hb => ⟨by have := hb2.size; omega, by omega, fun h => by cases h⟩⟩
    have hA := gatherAll16_any hF hP gn (gn + 1) (· < gn) d K _ v w2 (hv3.kept hb2) hdep (fun key c h => Nat.le_trans (fldN_dep16 d c key h) hdep) (fun b hb _ => hb) hG
    have hBw2 : Below w.heap.size w w2 := hBw.trans (hb2.mono (by omega))
    unfold GqQ at hA
    clear hG hv3 rA hBw hb2 hdep
    go_wp2_with fail
    refine hA.mono ?_
    rintro e w3 ⟨b, rfl, hK3, hy, hn⟩
    clear hA
    have HB : Hid (Below w.heap.size w w3) := hBw2.trans (hK3.toBelow (fun b hb => by omega))
    cases b with
    | false =>
      have HP : Hid _ := rd_no (l := l) (by rw [HM.out, rd_math, HK.out, hn rfl]) HB.out
      clear hy hn hK3 hBw2
      go_wp2
      go_ret2
      exact HP.out
    | true =>
      obtain ⟨L, e1, ⟨y, m, c, r1, r2, r3, r4, r5⟩⟩ := hy rfl
      have HP : Hid (∀ q, RdP16 l w (.returned (.tuple #[.int .i64 K, .slice y m c])) (w3.drewN q)) := by
        intro q
        have h9 : mRd l = (K, L) := by rw [HM.out, rd_math, HK.out, e1]
        have hq : Below w3.heap.size w3 (w3.drewN q) := ⟨rfl, rfl, rfl, Nat.le_refl _, fun _ _ => rfl⟩
        unfold RdP16
        rw [h9]
        exact ⟨⟨y, m, c, rfl, (r2.isK dcE_ok).cap.1.symm, (r2.keep hq).le (by omega)⟩, HB.out.trans (hq.mono HB.out.size)⟩
      have c0 : w3.cell? ⟨gn, 0, none⟩ = some (.slice y m c) := r1.cell 0
      clear hy hn hK3 hBw2 r1 r2 r3 r4 r5 e1
      go_upto_region 9 with fail
      go_quiet (fail)
      go_wp2
      go_ret2
      exact HP.out _
  · have fE : (E == 0) = false := beq_eq_false_iff_ne.2 hE
    have fE' : (E != 0) = true := by rw [bne_iff_ne]; exact hE
    have HP : Hid _ := rd_no (l := l) (hmb hE) hb1
    clear hy hno hgd hmr hmb hE
    go_wp2
    go_ret2
    exact HP.out
end Go.Proofs.YtalnbddkhojjbaaGreatDoor
