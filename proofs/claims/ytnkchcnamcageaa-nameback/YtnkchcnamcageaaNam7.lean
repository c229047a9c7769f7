
import Derived.Test.YtnkchcnamcageaaNam6
namespace Go.Proofs.Ytnkchcnamcageaa
open Go.RowKit

/-! NameParts -/
theorem chk_zero13 (l : List UInt8) : (chkN l == 0) = isN l := by unfold chkN; cases isN l <;> rfl
set_option linter.unusedSimpArgs false in
set_option maxRecDepth 100000 in
set_option maxHeartbeats 4000000 in
theorem lawNameParts_any (O : NamOk) (s : ByteArray) (w : World) (h63 : s.size ≤ 9223372036854775807) : Calls Try.prog 4 #[.string s] w fun e w' => e = .returned (.bool true) ∧ Below w.heap.size w w' := by
  have hK := known13_any O w
  have hC := fun W => O.chk s W h63
  have hls := lS_len s
  have hcut1 := fun W (h : 1 ≤ s.size) => run_sCut0 W s 1 h
  have hC1 := fun (h : 1 ≤ s.size) W => O.chk (s.extract 0 1) W (by rw [← lS_len, lS_cut]; simp; omega)
  rw [lS_cut] at hC1
  obtain ⟨l, hl⟩ : ∃ q, lS s = q := ⟨_, rfl⟩
  have HP := part_is l
  have HC9 : Hid (∀ k, k < s.size → ∃ S1 : ByteArray, S1.size = 1 ∧ s.extract k (k + 1) = S1 ∧ lS (⟨#[97]⟩ ++ S1) = [97, lB l k]) := fun k hk => by
    have e : lS (s.extract k (k + 1)) = [lB l k] := by
      rw [lS_cut, hl, show k + 1 - k = 1 by omega, List.drop_eq_getElem_cons (by rw [← hl, hls]; exact hk)]
      unfold lB
      rw [List.getElem?_eq_getElem (by rw [← hl, hls]; exact hk)]; rfl
    refine ⟨_, ?_, rfl, ?_⟩
    · rw [← lS_len, e]; rfl
    · rw [lS_app, e]; rfl
  rw [hl] at hC hls
  rw [hl, List.drop_zero, show 1 - 0 = 1 by omega] at hC1
  obtain ⟨n, hn⟩ : ∃ q, s.size = q := ⟨_, rfl⟩
  rw [hn] at hls h63 HC9
  simp only [hn] at hcut1 hC1
  rw [hls] at HP
  have HPI : Hid _ := HP
  clear HP
  have hp0 : partN l 0 = lenN n := by rw [← hls]; rfl
  go_enter Try.func4, Try.ntmps4
  go_wp2_with fail
  refine hK.mono ?_
  rintro e w0 ⟨rfl, hB⟩
  clear hK
  obtain ⟨P0, hP0⟩ : ∃ q, partN l 0 = q := ⟨_, rfl⟩
  have HP0 : Hid (partN l 0 = P0) := hP0
  rw [hP0] at hp0
  clear hP0
  have hreg : (0 < n ∧ n ≤ 24 ∧ P0 = true) ∨ (0 < n ∧ 24 < n ∧ P0 = false) ∨ (n = 0 ∧ P0 = false) := by
    rw [hp0]; unfold lenN
    by_cases h1 : 1 ≤ n ∧ n ≤ 24
    · rw [decide_eq_true h1]; exact .inl ⟨by omega, by omega, rfl⟩
    · rw [decide_eq_false h1]
      by_cases h2 : n = 0
      · exact .inr (.inr ⟨h2, rfl⟩)
      · exact .inr (.inl ⟨by omega, by omega, rfl⟩)
  clear hp0
  rcases hreg with ⟨hpos, hle, rfl⟩ | ⟨hpos, hgt, rfl⟩ | ⟨rfl, rfl⟩
  · have j1 : (0 : Int) < (n : Int) := by omega
    have j2 : (n : Int) ≤ 24 := by omega
    go_wp2_with fail
    go_loopw [3, 4] (fun mv iv wr => ∃ (k : Nat) (Pk : Bool), (k ≤ n ∧ k ≤ 40) ∧ mv = .bool Pk ∧ iv = .int .i64 k ∧ Hid (partN l k = Pk) ∧ Below w.heap.size w wr) (fun _ iv _ => 40 - (intOf iv).toNat)
    case atStart => exact ⟨0, _, ⟨by omega, by omega⟩, by first | rfl | exact congrArg Value.bool (decide_eq_false (by omega)), rfl, HP0, hB⟩
    case round =>
      clear HP0 hB
      obtain ⟨k, Pk, ⟨hk1, hk2⟩, rfl, rfl, HPk, hB⟩ := hrel
      by_cases h1 : k < n
      · have i1 : (k : Int) < (n : Int) := by omega
        have i0 : (0 : Int) ≤ (k : Int) := by omega
        by_cases h2 : k < 40
        · have i2 : (k : Int) < 40 := by omega
          obtain ⟨S1, hS1, hcS, hlS⟩ := HC9.out k h1
          have hcut : ∀ W, (sCut (.string s) (.int .i64 (k : Int)) (.int .i64 ((k : Int) + 1))).run Try.prog W = .ok (.value (.string S1)) W := fun W => by
            have := run_sCut W s k (k + 1) (by omega) (by rw [hn]; omega)
            rw [hcS] at this
            rw [← this]; rfl
          have kc := fun W => O.chk (⟨#[97]⟩ ++ S1) W (by rw [ByteArray.size_append, hS1]; show 1 + 1 ≤ _; omega)
          rw [hlS] at kc
          have HNX : Hid (partN l (k + 1) = (Pk && isN [97, lB l k])) := by show (partN l k && isN [97, lB l k]) = _; rw [HPk.out]
          obtain ⟨Q, hQ⟩ : ∃ q, isN [97, lB l k] = q := ⟨_, rfl⟩
          have hq9 : chkN [97, lB l k] = bif Q then 0 else 36 := by unfold chkN; rw [hQ]
          rw [hq9] at kc
          rw [hQ] at HNX
          clear hQ hq9 hlS hcS HPk hcut1 hC1 hC
          cases Pk
          · have HN2 : Hid (partN l (k + 1) = false) := HNX.out
            clear kc HNX hcut
            go_wp2
            go_roundw
            case rel => first | exact ⟨k + 1, _, by omega, rfl, by go_num, HN2, hB⟩ | ((repeat apply Exists.intro); refine ⟨⟨k + 1, _, by omega, rfl, ?_, HN2, hB⟩, rfl⟩; go_num)
            case measure => simp [intOf]; omega
          · have HN2 : Hid (partN l (k + 1) = Q) := HNX.out
            clear HNX
            go_wp2_with fail
            refine (kc _).mono ?_
            rintro e w7 ⟨rfl, hB7⟩
            replace hB := hB.trans (hB7.mono hB.size)
            clear hB7
            cases Q
            · go_wp2
              go_roundw
              case rel => first | exact ⟨k + 1, _, by omega, rfl, by go_num, HN2, hB⟩ | ((repeat apply Exists.intro); refine ⟨⟨k + 1, _, by omega, rfl, ?_, HN2, hB⟩, rfl⟩; go_num)
              case measure => simp [intOf]; omega
            · go_wp2
              go_roundw
              case rel => first | exact ⟨k + 1, _, by omega, rfl, by go_num, HN2, hB⟩ | ((repeat apply Exists.intro); refine ⟨⟨k + 1, _, by omega, rfl, ?_, HN2, hB⟩, rfl⟩; go_num)
              case measure => simp [intOf]; omega
        · have i2 : ¬ (k : Int) < 40 := by omega
          have hkk : k = n ∨ 40 ≤ k := .inr (by omega)
          clear h2
          have hfin0 := HPI.out k hk1 hkk
          rw [HPk.out] at hfin0
          clear HPk
          rw [decide_eq_true hpos] at hfin0
          have hcut : ∀ W, (sCut0 (.string s) (.int .i64 1)).run Try.prog W = .ok (.value (.string (s.extract 0 1))) W := fun W => hcut1 W (by omega)
          have kc1 := hC1 (by omega)
          generalize s.extract 0 1 = S0 at hcut kc1
          obtain ⟨Q, hQ⟩ : ∃ q, isN (l.take 1) = q := ⟨_, rfl⟩
          have hq9 : chkN (l.take 1) = bif Q then 0 else 36 := by unfold chkN; rw [hQ]
          rw [hq9] at kc1
          rw [hQ] at hfin0
          clear hQ hq9 hcut1 hC1
          cases Pk
          · have hfin : isN l = false := hfin0
            clear hfin0 kc1 hcut
            have hc9 : chkN l = 36 := by unfold chkN; rw [hfin]; rfl
            rw [hc9] at hC
            clear hfin hc9
            go_wp2_with fail
            refine (hC _).mono ?_
            rintro e w9 ⟨rfl, hB9⟩
            replace hB := hB.trans (hB9.mono hB.size)
            clear hB9
            go_wp2
            go_ret
            exact ⟨rfl, hB⟩
          · cases Q
            · have hfin : isN l = false := hfin0
              clear hfin0
              go_wp2_with fail
              refine (kc1 _).mono ?_
              rintro e w8 ⟨rfl, hB8⟩
              replace hB := hB.trans (hB8.mono hB.size)
              clear hB8
              have hc9 : chkN l = 36 := by unfold chkN; rw [hfin]; rfl
              rw [hc9] at hC
              clear hfin hc9
              go_wp2_with fail
              refine (hC _).mono ?_
              rintro e w9 ⟨rfl, hB9⟩
              replace hB := hB.trans (hB9.mono hB.size)
              clear hB9
              go_wp2
              go_ret
              exact ⟨rfl, hB⟩
            · have hfin : isN l = true := hfin0
              clear hfin0
              go_wp2_with fail
              refine (kc1 _).mono ?_
              rintro e w8 ⟨rfl, hB8⟩
              replace hB := hB.trans (hB8.mono hB.size)
              clear hB8
              have hc9 : chkN l = 0 := by unfold chkN; rw [hfin]; rfl
              rw [hc9] at hC
              clear hfin hc9
              go_wp2_with fail
              refine (hC _).mono ?_
              rintro e w9 ⟨rfl, hB9⟩
              replace hB := hB.trans (hB9.mono hB.size)
              clear hB9
              go_wp2
              go_ret
              exact ⟨rfl, hB⟩
      · have i1 : ¬ (k : Int) < (n : Int) := by omega
        have hkk : k = n ∨ 40 ≤ k := .inl (by omega)
        clear h1
        have hfin0 := HPI.out k hk1 hkk
        rw [HPk.out] at hfin0
        clear HPk
        rw [decide_eq_true hpos] at hfin0
        have hcut : ∀ W, (sCut0 (.string s) (.int .i64 1)).run Try.prog W = .ok (.value (.string (s.extract 0 1))) W := fun W => hcut1 W (by omega)
        have kc1 := hC1 (by omega)
        generalize s.extract 0 1 = S0 at hcut kc1
        obtain ⟨Q, hQ⟩ : ∃ q, isN (l.take 1) = q := ⟨_, rfl⟩
        have hq9 : chkN (l.take 1) = bif Q then 0 else 36 := by unfold chkN; rw [hQ]
        rw [hq9] at kc1
        rw [hQ] at hfin0
        clear hQ hq9 hcut1 hC1
        cases Pk
        · have hfin : isN l = false := hfin0
          clear hfin0 kc1 hcut
          have hc9 : chkN l = 36 := by unfold chkN; rw [hfin]; rfl
          rw [hc9] at hC
          clear hfin hc9
          go_wp2_with fail
          refine (hC _).mono ?_
          rintro e w9 ⟨rfl, hB9⟩
          replace hB := hB.trans (hB9.mono hB.size)
          clear hB9
          go_wp2
          go_ret
          exact ⟨rfl, hB⟩
        · cases Q
          · have hfin : isN l = false := hfin0
            clear hfin0
            go_wp2_with fail
            refine (kc1 _).mono ?_
            rintro e w8 ⟨rfl, hB8⟩
            replace hB := hB.trans (hB8.mono hB.size)
            clear hB8
            have hc9 : chkN l = 36 := by unfold chkN; rw [hfin]; rfl
            rw [hc9] at hC
            clear hfin hc9
            go_wp2_with fail
            refine (hC _).mono ?_
            rintro e w9 ⟨rfl, hB9⟩
            replace hB := hB.trans (hB9.mono hB.size)
            clear hB9
            go_wp2
            go_ret
            exact ⟨rfl, hB⟩
          · have hfin : isN l = true := hfin0
            clear hfin0
            go_wp2_with fail
            refine (kc1 _).mono ?_
            rintro e w8 ⟨rfl, hB8⟩
            replace hB := hB.trans (hB8.mono hB.size)
            clear hB8
            have hc9 : chkN l = 0 := by unfold chkN; rw [hfin]; rfl
            rw [hc9] at hC
            clear hfin hc9
            go_wp2_with fail
            refine (hC _).mono ?_
            rintro e w9 ⟨rfl, hB9⟩
            replace hB := hB.trans (hB9.mono hB.size)
            clear hB9
            go_wp2
            go_ret
            exact ⟨rfl, hB⟩
  · have j1 : (0 : Int) < (n : Int) := by omega
    have j2 : ¬ (n : Int) ≤ 24 := by omega
    go_wp2_with fail
    go_loopw [3, 4] (fun mv iv wr => ∃ (k : Nat) (Pk : Bool), (k ≤ n ∧ k ≤ 40) ∧ mv = .bool Pk ∧ iv = .int .i64 k ∧ Hid (partN l k = Pk) ∧ Below w.heap.size w wr) (fun _ iv _ => 40 - (intOf iv).toNat)
    case atStart => exact ⟨0, _, ⟨by omega, by omega⟩, by first | rfl | exact congrArg Value.bool (decide_eq_false (by omega)), rfl, HP0, hB⟩
    case round =>
      clear HP0 hB
      obtain ⟨k, Pk, ⟨hk1, hk2⟩, rfl, rfl, HPk, hB⟩ := hrel
      by_cases h1 : k < n
      · have i1 : (k : Int) < (n : Int) := by omega
        have i0 : (0 : Int) ≤ (k : Int) := by omega
        by_cases h2 : k < 40
        · have i2 : (k : Int) < 40 := by omega
          obtain ⟨S1, hS1, hcS, hlS⟩ := HC9.out k h1
          have hcut : ∀ W, (sCut (.string s) (.int .i64 (k : Int)) (.int .i64 ((k : Int) + 1))).run Try.prog W = .ok (.value (.string S1)) W := fun W => by
            have := run_sCut W s k (k + 1) (by omega) (by rw [hn]; omega)
            rw [hcS] at this
            rw [← this]; rfl
          have kc := fun W => O.chk (⟨#[97]⟩ ++ S1) W (by rw [ByteArray.size_append, hS1]; show 1 + 1 ≤ _; omega)
          rw [hlS] at kc
          have HNX : Hid (partN l (k + 1) = (Pk && isN [97, lB l k])) := by show (partN l k && isN [97, lB l k]) = _; rw [HPk.out]
          obtain ⟨Q, hQ⟩ : ∃ q, isN [97, lB l k] = q := ⟨_, rfl⟩
          have hq9 : chkN [97, lB l k] = bif Q then 0 else 36 := by unfold chkN; rw [hQ]
          rw [hq9] at kc
          rw [hQ] at HNX
          clear hQ hq9 hlS hcS HPk hcut1 hC1 hC
          cases Pk
          · have HN2 : Hid (partN l (k + 1) = false) := HNX.out
            clear kc HNX hcut
            go_wp2
            go_roundw
            case rel => first | exact ⟨k + 1, _, by omega, rfl, by go_num, HN2, hB⟩ | ((repeat apply Exists.intro); refine ⟨⟨k + 1, _, by omega, rfl, ?_, HN2, hB⟩, rfl⟩; go_num)
            case measure => simp [intOf]; omega
          · have HN2 : Hid (partN l (k + 1) = Q) := HNX.out
            clear HNX
            go_wp2_with fail
            refine (kc _).mono ?_
            rintro e w7 ⟨rfl, hB7⟩
            replace hB := hB.trans (hB7.mono hB.size)
            clear hB7
            cases Q
            · go_wp2
              go_roundw
              case rel => first | exact ⟨k + 1, _, by omega, rfl, by go_num, HN2, hB⟩ | ((repeat apply Exists.intro); refine ⟨⟨k + 1, _, by omega, rfl, ?_, HN2, hB⟩, rfl⟩; go_num)
              case measure => simp [intOf]; omega
            · go_wp2
              go_roundw
              case rel => first | exact ⟨k + 1, _, by omega, rfl, by go_num, HN2, hB⟩ | ((repeat apply Exists.intro); refine ⟨⟨k + 1, _, by omega, rfl, ?_, HN2, hB⟩, rfl⟩; go_num)
              case measure => simp [intOf]; omega
        · have i2 : ¬ (k : Int) < 40 := by omega
          have hkk : k = n ∨ 40 ≤ k := .inr (by omega)
          clear h2
          have hfin0 := HPI.out k hk1 hkk
          rw [HPk.out] at hfin0
          clear HPk
          rw [decide_eq_true hpos] at hfin0
          have hcut : ∀ W, (sCut0 (.string s) (.int .i64 1)).run Try.prog W = .ok (.value (.string (s.extract 0 1))) W := fun W => hcut1 W (by omega)
          have kc1 := hC1 (by omega)
          generalize s.extract 0 1 = S0 at hcut kc1
          obtain ⟨Q, hQ⟩ : ∃ q, isN (l.take 1) = q := ⟨_, rfl⟩
          have hq9 : chkN (l.take 1) = bif Q then 0 else 36 := by unfold chkN; rw [hQ]
          rw [hq9] at kc1
          rw [hQ] at hfin0
          clear hQ hq9 hcut1 hC1
          cases Pk
          · have hfin : isN l = false := hfin0
            clear hfin0 kc1 hcut
            have hc9 : chkN l = 36 := by unfold chkN; rw [hfin]; rfl
            rw [hc9] at hC
            clear hfin hc9
            go_wp2_with fail
            refine (hC _).mono ?_
            rintro e w9 ⟨rfl, hB9⟩
            replace hB := hB.trans (hB9.mono hB.size)
            clear hB9
            go_wp2
            go_ret
            exact ⟨rfl, hB⟩
          · cases Q
            · have hfin : isN l = false := hfin0
              clear hfin0
              go_wp2_with fail
              refine (kc1 _).mono ?_
              rintro e w8 ⟨rfl, hB8⟩
              replace hB := hB.trans (hB8.mono hB.size)
              clear hB8
              have hc9 : chkN l = 36 := by unfold chkN; rw [hfin]; rfl
              rw [hc9] at hC
              clear hfin hc9
              go_wp2_with fail
              refine (hC _).mono ?_
              rintro e w9 ⟨rfl, hB9⟩
              replace hB := hB.trans (hB9.mono hB.size)
              clear hB9
              go_wp2
              go_ret
              exact ⟨rfl, hB⟩
            · have hfin : isN l = true := hfin0
              clear hfin0
              go_wp2_with fail
              refine (kc1 _).mono ?_
              rintro e w8 ⟨rfl, hB8⟩
              replace hB := hB.trans (hB8.mono hB.size)
              clear hB8
              have hc9 : chkN l = 0 := by unfold chkN; rw [hfin]; rfl
              rw [hc9] at hC
              clear hfin hc9
              go_wp2_with fail
              refine (hC _).mono ?_
              rintro e w9 ⟨rfl, hB9⟩
              replace hB := hB.trans (hB9.mono hB.size)
              clear hB9
              go_wp2
              go_ret
              exact ⟨rfl, hB⟩
      · have i1 : ¬ (k : Int) < (n : Int) := by omega
        have hkk : k = n ∨ 40 ≤ k := .inl (by omega)
        clear h1
        have hfin0 := HPI.out k hk1 hkk
        rw [HPk.out] at hfin0
        clear HPk
        rw [decide_eq_true hpos] at hfin0
        have hcut : ∀ W, (sCut0 (.string s) (.int .i64 1)).run Try.prog W = .ok (.value (.string (s.extract 0 1))) W := fun W => hcut1 W (by omega)
        have kc1 := hC1 (by omega)
        generalize s.extract 0 1 = S0 at hcut kc1
        obtain ⟨Q, hQ⟩ : ∃ q, isN (l.take 1) = q := ⟨_, rfl⟩
        have hq9 : chkN (l.take 1) = bif Q then 0 else 36 := by unfold chkN; rw [hQ]
        rw [hq9] at kc1
        rw [hQ] at hfin0
        clear hQ hq9 hcut1 hC1
        cases Pk
        · have hfin : isN l = false := hfin0
          clear hfin0 kc1 hcut
          have hc9 : chkN l = 36 := by unfold chkN; rw [hfin]; rfl
          rw [hc9] at hC
          clear hfin hc9
          go_wp2_with fail
          refine (hC _).mono ?_
          rintro e w9 ⟨rfl, hB9⟩
          replace hB := hB.trans (hB9.mono hB.size)
          clear hB9
          go_wp2
          go_ret
          exact ⟨rfl, hB⟩
        · cases Q
          · have hfin : isN l = false := hfin0
            clear hfin0
            go_wp2_with fail
            refine (kc1 _).mono ?_
            rintro e w8 ⟨rfl, hB8⟩
            replace hB := hB.trans (hB8.mono hB.size)
            clear hB8
            have hc9 : chkN l = 36 := by unfold chkN; rw [hfin]; rfl
            rw [hc9] at hC
            clear hfin hc9
            go_wp2_with fail
            refine (hC _).mono ?_
            rintro e w9 ⟨rfl, hB9⟩
            replace hB := hB.trans (hB9.mono hB.size)
            clear hB9
            go_wp2
            go_ret
            exact ⟨rfl, hB⟩
          · have hfin : isN l = true := hfin0
            clear hfin0
            go_wp2_with fail
            refine (kc1 _).mono ?_
            rintro e w8 ⟨rfl, hB8⟩
            replace hB := hB.trans (hB8.mono hB.size)
            clear hB8
            have hc9 : chkN l = 0 := by unfold chkN; rw [hfin]; rfl
            rw [hc9] at hC
            clear hfin hc9
            go_wp2_with fail
            refine (hC _).mono ?_
            rintro e w9 ⟨rfl, hB9⟩
            replace hB := hB.trans (hB9.mono hB.size)
            clear hB9
            go_wp2
            go_ret
            exact ⟨rfl, hB⟩
  · skip
    go_wp2_with fail
    go_loopw [3, 4] (fun mv iv wr => ∃ (k : Nat) (Pk : Bool), (k ≤ 0 ∧ k ≤ 40) ∧ mv = .bool Pk ∧ iv = .int .i64 k ∧ Hid (partN l k = Pk) ∧ Below w.heap.size w wr) (fun _ iv _ => 40 - (intOf iv).toNat)
    case atStart => exact ⟨0, _, ⟨by omega, by omega⟩, by first | rfl | exact congrArg Value.bool (decide_eq_false (by omega)), rfl, HP0, hB⟩
    case round =>
      clear HP0 hB
      obtain ⟨k, Pk, ⟨hk1, hk2⟩, rfl, rfl, HPk, hB⟩ := hrel
      have i1 : ¬ (k : Int) < 0 := by omega
      have hkk : k = 0 ∨ 40 ≤ k := .inl (by omega)
      have hfin0 := HPI.out k hk1 hkk
      rw [HPk.out] at hfin0
      clear HPk
      rw [decide_eq_false (show ¬ 0 < 0 by omega)] at hfin0
      clear hcut1 hC1
      cases Pk
      · have hfin : isN l = false := hfin0
        clear hfin0
        have hc9 : chkN l = 36 := by unfold chkN; rw [hfin]; rfl
        rw [hc9] at hC
        clear hfin hc9
        go_wp2_with fail
        refine (hC _).mono ?_
        rintro e w9 ⟨rfl, hB9⟩
        replace hB := hB.trans (hB9.mono hB.size)
        clear hB9
        go_wp2
        go_ret
        exact ⟨rfl, hB⟩
      · have hfin : isN l = true := hfin0
        clear hfin0
        have hc9 : chkN l = 0 := by unfold chkN; rw [hfin]; rfl
        rw [hc9] at hC
        clear hfin hc9
        go_wp2_with fail
        refine (hC _).mono ?_
        rintro e w9 ⟨rfl, hB9⟩
        replace hB := hB.trans (hB9.mono hB.size)
        clear hB9
        go_wp2
        go_ret
        exact ⟨rfl, hB⟩
end Go.Proofs.Ytnkchcnamcageaa
