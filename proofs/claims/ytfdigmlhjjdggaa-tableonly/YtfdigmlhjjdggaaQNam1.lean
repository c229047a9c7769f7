import Derived.Test.YtfdigmlhjjdggaaQStr
import Derived.Test.YtfdigmlhjjdggaaQNum
import Derived.Test.YtfdigmlhjjdggaaQRelc
namespace Go.Proofs.Ytfdigmlhjjdggaa
open Go.RowKit

/-! assayref13.Is -/
theorem chN_at (b : UInt8) : chN b = (decide (97 ≤ b.toNat ∧ b.toNat ≤ 122) || decide (65 ≤ b.toNat ∧ b.toNat ≤ 90) || decide (48 ≤ b.toNat ∧ b.toNat ≤ 57) || decide (b.toNat = 95)) := rfl
theorem ch_cases (n : Nat) : n < 45 ∨ n = 45 ∨ n = 46 ∨ n = 47 ∨ (48 ≤ n ∧ n ≤ 57) ∨ (58 ≤ n ∧ n ≤ 64) ∨ (65 ≤ n ∧ n ≤ 90) ∨ (91 ≤ n ∧ n ≤ 94) ∨ n = 95 ∨ n = 96 ∨ (97 ≤ n ∧ n ≤ 122) ∨ 123 ≤ n := by omega
set_option linter.unusedSimpArgs false in
set_option maxRecDepth 100000 in
set_option maxHeartbeats 4000000 in
theorem refIs_any (s : ByteArray) (w : World) (h63 : s.size ≤ 9223372036854775807) : Calls Try.prog 32 #[.string s] w fun e w' => e = .returned (.bool (isN (lS s))) ∧ Below w.heap.size w w' := by
  obtain ⟨R, hR⟩ : ∃ q, isN (lS s) = q := ⟨_, rfl⟩
  have HR : Hid (isN (lS s) = R) := hR
  have HI : Hid (isN (lS s) = (lenN (lS s).length && okN (lS s) (lS s).length)) := rfl
  rw [hR]
  clear hR
  have hsz := lS_len s
  obtain ⟨l, hl⟩ : ∃ q, lS s = q := ⟨_, rfl⟩
  rw [hl] at hsz HR HI
  obtain ⟨n, hn⟩ : ∃ q, s.size = q := ⟨_, rfl⟩
  rw [hn] at hsz h63
  go_enter Try.func32, Try.ntmps32
  by_cases h1 : n < 1
  · have i1 : (n : Int) < 1 := by omega
    have HF : Hid (R = false) := by show _ = _; rw [← HR.out, HI.out, hsz]; unfold lenN; rw [decide_eq_false (by omega)]; rfl
    go_wp2
    go_ret
    exact ⟨by rw [HF.out]; rfl, Below.refl _ _⟩
  by_cases h2 : 24 < n
  · have i1 : ¬ (n : Int) < 1 := by omega
    have i2 : (24 : Int) < (n : Int) := by omega
    have HF : Hid (R = false) := by show _ = _; rw [← HR.out, HI.out, hsz]; unfold lenN; rw [decide_eq_false (by omega)]; rfl
    go_wp2
    go_ret
    exact ⟨by rw [HF.out]; rfl, Below.refl _ _⟩
  have i1 : ¬ (n : Int) < 1 := by omega
  have i2 : ¬ (24 : Int) < (n : Int) := by omega
  have HL : Hid (R = okN l n) := by show _ = _; rw [← HR.out, HI.out, hsz]; unfold lenN; rw [decide_eq_true (by omega)]; rfl
  clear HR HI
  go_wp2_with fail
  go_loopw [3] (fun iv wr => ∃ k : Nat, k ≤ n ∧ iv = .int .i64 k ∧ Hid (okN l k = true) ∧ Below w.heap.size w wr) (fun iv _ => n - (intOf iv).toNat)
  case atStart => exact ⟨0, by omega, rfl, rfl, Below.refl _ _⟩
  case round =>
    obtain ⟨k, hk, rfl, hok, hB⟩ := hrel
    by_cases hlt : k < n
    · have hk0 : (0 : Int) ≤ (k : Int) := by omega
      have hk1 : (k : Int) < (n : Int) := by omega
      obtain ⟨b, hb⟩ : ∃ q, lB l k = q := ⟨_, rfl⟩
      have hb' : lB (lS s) k = b := by rw [hl]; exact hb
      have HN : Hid (okN l (k + 1) = okC l k) := by show (okN l k && okC l k) = okC l k; rw [hok.out]; rfl
      have HC : Hid (okC l k = (chN b || (decide (0 < k) && ch2 b))) := by show okC l k = _; unfold okC; rw [hb]
      have HX : Hid (okC l k = false → R = false) := fun hx => by rw [HL.out]; exact okN_not l k n hlt hx
      clear hok
      obtain ⟨c, hc⟩ : ∃ q, b.toNat = q := ⟨_, rfl⟩
      have HV : Hid (chN b = (decide (97 ≤ c ∧ c ≤ 122) || decide (65 ≤ c ∧ c ≤ 90) || decide (48 ≤ c ∧ c ≤ 57) || decide (c = 95)) ∧ ch2 b = (decide (c = 46) || decide (c = 45))) := by
        show _ ∧ _
        rw [← hc]; exact ⟨rfl, rfl⟩
      rcases ch_cases c with hcl | hcl | hcl | hcl | hcl | hcl | hcl | hcl | hcl | hcl | hcl | hcl
      · have f0 : ¬ (97 : Int) ≤ (c : Int) := by omega
        have f1 : (c : Int) ≤ 122 := by omega
        have f2 : ¬ (65 : Int) ≤ (c : Int) := by omega
        have f3 : (c : Int) ≤ 90 := by omega
        have f4 : ¬ (48 : Int) ≤ (c : Int) := by omega
        have f5 : (c : Int) ≤ 57 := by omega
        have f6 : ((c : Int) == 95) = false := beq_eq_false_iff_ne.2 (by omega)
        have f7 : ((c : Int) == 46) = false := beq_eq_false_iff_ne.2 (by omega)
        have f8 : ((c : Int) == 45) = false := beq_eq_false_iff_ne.2 (by omega)
        by_cases hk9 : k = 0
        · have z0 : ¬ (0 : Int) < (k : Int) := by omega
          have HF : Hid (R = false) := HX.out (by rw [HC.out, HV.out.1, HV.out.2]; simp; omega)
          clear HN HC HX HV hk9
          go_wp2
          go_ret
          exact ⟨by rw [HF.out]; rfl, hB⟩
        · have z0 : (0 : Int) < (k : Int) := by omega
          have HF : Hid (R = false) := HX.out (by rw [HC.out, HV.out.1, HV.out.2]; simp; omega)
          clear HN HC HX HV hk9
          go_wp2
          go_ret
          exact ⟨by rw [HF.out]; rfl, hB⟩
      · have f0 : ¬ (97 : Int) ≤ (c : Int) := by omega
        have f1 : (c : Int) ≤ 122 := by omega
        have f2 : ¬ (65 : Int) ≤ (c : Int) := by omega
        have f3 : (c : Int) ≤ 90 := by omega
        have f4 : ¬ (48 : Int) ≤ (c : Int) := by omega
        have f5 : (c : Int) ≤ 57 := by omega
        have f6 : ((c : Int) == 95) = false := beq_eq_false_iff_ne.2 (by omega)
        have f7 : ((c : Int) == 46) = false := beq_eq_false_iff_ne.2 (by omega)
        have f8 : ((c : Int) == 45) = true := beq_iff_eq.2 (by omega)
        by_cases hk9 : k = 0
        · have z0 : ¬ (0 : Int) < (k : Int) := by omega
          have HF : Hid (R = false) := HX.out (by rw [HC.out, HV.out.1, HV.out.2]; simp; omega)
          clear HN HC HX HV hk9
          go_wp2
          go_ret
          exact ⟨by rw [HF.out]; rfl, hB⟩
        · have z0 : (0 : Int) < (k : Int) := by omega
          have HO : Hid (okN l (k + 1) = true) := by
            show _ = true
            rw [HN.out, HC.out, HV.out.1, HV.out.2]; simp; omega
          clear HN HC HX HV
          go_wp2
          go_roundw
          case rel => first | exact ⟨k + 1, by omega, by go_num, HO, hB⟩ | ((repeat apply Exists.intro); refine ⟨⟨k + 1, by omega, ?_, HO, hB⟩, rfl⟩; go_num)
          case measure => simp [intOf]; omega
      · have f0 : ¬ (97 : Int) ≤ (c : Int) := by omega
        have f1 : (c : Int) ≤ 122 := by omega
        have f2 : ¬ (65 : Int) ≤ (c : Int) := by omega
        have f3 : (c : Int) ≤ 90 := by omega
        have f4 : ¬ (48 : Int) ≤ (c : Int) := by omega
        have f5 : (c : Int) ≤ 57 := by omega
        have f6 : ((c : Int) == 95) = false := beq_eq_false_iff_ne.2 (by omega)
        have f7 : ((c : Int) == 46) = true := beq_iff_eq.2 (by omega)
        have f8 : ((c : Int) == 45) = false := beq_eq_false_iff_ne.2 (by omega)
        by_cases hk9 : k = 0
        · have z0 : ¬ (0 : Int) < (k : Int) := by omega
          have HF : Hid (R = false) := HX.out (by rw [HC.out, HV.out.1, HV.out.2]; simp; omega)
          clear HN HC HX HV hk9
          go_wp2
          go_ret
          exact ⟨by rw [HF.out]; rfl, hB⟩
        · have z0 : (0 : Int) < (k : Int) := by omega
          have HO : Hid (okN l (k + 1) = true) := by
            show _ = true
            rw [HN.out, HC.out, HV.out.1, HV.out.2]; simp; omega
          clear HN HC HX HV
          go_wp2
          go_roundw
          case rel => first | exact ⟨k + 1, by omega, by go_num, HO, hB⟩ | ((repeat apply Exists.intro); refine ⟨⟨k + 1, by omega, ?_, HO, hB⟩, rfl⟩; go_num)
          case measure => simp [intOf]; omega
      · have f0 : ¬ (97 : Int) ≤ (c : Int) := by omega
        have f1 : (c : Int) ≤ 122 := by omega
        have f2 : ¬ (65 : Int) ≤ (c : Int) := by omega
        have f3 : (c : Int) ≤ 90 := by omega
        have f4 : ¬ (48 : Int) ≤ (c : Int) := by omega
        have f5 : (c : Int) ≤ 57 := by omega
        have f6 : ((c : Int) == 95) = false := beq_eq_false_iff_ne.2 (by omega)
        have f7 : ((c : Int) == 46) = false := beq_eq_false_iff_ne.2 (by omega)
        have f8 : ((c : Int) == 45) = false := beq_eq_false_iff_ne.2 (by omega)
        by_cases hk9 : k = 0
        · have z0 : ¬ (0 : Int) < (k : Int) := by omega
          have HF : Hid (R = false) := HX.out (by rw [HC.out, HV.out.1, HV.out.2]; simp; omega)
          clear HN HC HX HV hk9
          go_wp2
          go_ret
          exact ⟨by rw [HF.out]; rfl, hB⟩
        · have z0 : (0 : Int) < (k : Int) := by omega
          have HF : Hid (R = false) := HX.out (by rw [HC.out, HV.out.1, HV.out.2]; simp; omega)
          clear HN HC HX HV hk9
          go_wp2
          go_ret
          exact ⟨by rw [HF.out]; rfl, hB⟩
      · have f0 : ¬ (97 : Int) ≤ (c : Int) := by omega
        have f1 : (c : Int) ≤ 122 := by omega
        have f2 : ¬ (65 : Int) ≤ (c : Int) := by omega
        have f3 : (c : Int) ≤ 90 := by omega
        have f4 : (48 : Int) ≤ (c : Int) := by omega
        have f5 : (c : Int) ≤ 57 := by omega
        have f6 : ((c : Int) == 95) = false := beq_eq_false_iff_ne.2 (by omega)
        have f7 : ((c : Int) == 46) = false := beq_eq_false_iff_ne.2 (by omega)
        have f8 : ((c : Int) == 45) = false := beq_eq_false_iff_ne.2 (by omega)
        have HO : Hid (okN l (k + 1) = true) := by
          show _ = true
          rw [HN.out, HC.out, HV.out.1, HV.out.2]; simp; omega
        clear HN HC HX HV
        go_wp2
        go_roundw
        case rel => first | exact ⟨k + 1, by omega, by go_num, HO, hB⟩ | ((repeat apply Exists.intro); refine ⟨⟨k + 1, by omega, ?_, HO, hB⟩, rfl⟩; go_num)
        case measure => simp [intOf]; omega
      · have f0 : ¬ (97 : Int) ≤ (c : Int) := by omega
        have f1 : (c : Int) ≤ 122 := by omega
        have f2 : ¬ (65 : Int) ≤ (c : Int) := by omega
        have f3 : (c : Int) ≤ 90 := by omega
        have f4 : (48 : Int) ≤ (c : Int) := by omega
        have f5 : ¬ (c : Int) ≤ 57 := by omega
        have f6 : ((c : Int) == 95) = false := beq_eq_false_iff_ne.2 (by omega)
        have f7 : ((c : Int) == 46) = false := beq_eq_false_iff_ne.2 (by omega)
        have f8 : ((c : Int) == 45) = false := beq_eq_false_iff_ne.2 (by omega)
        by_cases hk9 : k = 0
        · have z0 : ¬ (0 : Int) < (k : Int) := by omega
          have HF : Hid (R = false) := HX.out (by rw [HC.out, HV.out.1, HV.out.2]; simp; omega)
          clear HN HC HX HV hk9
          go_wp2
          go_ret
          exact ⟨by rw [HF.out]; rfl, hB⟩
        · have z0 : (0 : Int) < (k : Int) := by omega
          have HF : Hid (R = false) := HX.out (by rw [HC.out, HV.out.1, HV.out.2]; simp; omega)
          clear HN HC HX HV hk9
          go_wp2
          go_ret
          exact ⟨by rw [HF.out]; rfl, hB⟩
      · have f0 : ¬ (97 : Int) ≤ (c : Int) := by omega
        have f1 : (c : Int) ≤ 122 := by omega
        have f2 : (65 : Int) ≤ (c : Int) := by omega
        have f3 : (c : Int) ≤ 90 := by omega
        have f4 : (48 : Int) ≤ (c : Int) := by omega
        have f5 : ¬ (c : Int) ≤ 57 := by omega
        have f6 : ((c : Int) == 95) = false := beq_eq_false_iff_ne.2 (by omega)
        have f7 : ((c : Int) == 46) = false := beq_eq_false_iff_ne.2 (by omega)
        have f8 : ((c : Int) == 45) = false := beq_eq_false_iff_ne.2 (by omega)
        have HO : Hid (okN l (k + 1) = true) := by
          show _ = true
          rw [HN.out, HC.out, HV.out.1, HV.out.2]; simp; omega
        clear HN HC HX HV
        go_wp2
        go_roundw
        case rel => first | exact ⟨k + 1, by omega, by go_num, HO, hB⟩ | ((repeat apply Exists.intro); refine ⟨⟨k + 1, by omega, ?_, HO, hB⟩, rfl⟩; go_num)
        case measure => simp [intOf]; omega
      · have f0 : ¬ (97 : Int) ≤ (c : Int) := by omega
        have f1 : (c : Int) ≤ 122 := by omega
        have f2 : (65 : Int) ≤ (c : Int) := by omega
        have f3 : ¬ (c : Int) ≤ 90 := by omega
        have f4 : (48 : Int) ≤ (c : Int) := by omega
        have f5 : ¬ (c : Int) ≤ 57 := by omega
        have f6 : ((c : Int) == 95) = false := beq_eq_false_iff_ne.2 (by omega)
        have f7 : ((c : Int) == 46) = false := beq_eq_false_iff_ne.2 (by omega)
        have f8 : ((c : Int) == 45) = false := beq_eq_false_iff_ne.2 (by omega)
        by_cases hk9 : k = 0
        · have z0 : ¬ (0 : Int) < (k : Int) := by omega
          have HF : Hid (R = false) := HX.out (by rw [HC.out, HV.out.1, HV.out.2]; simp; omega)
          clear HN HC HX HV hk9
          go_wp2
          go_ret
          exact ⟨by rw [HF.out]; rfl, hB⟩
        · have z0 : (0 : Int) < (k : Int) := by omega
          have HF : Hid (R = false) := HX.out (by rw [HC.out, HV.out.1, HV.out.2]; simp; omega)
          clear HN HC HX HV hk9
          go_wp2
          go_ret
          exact ⟨by rw [HF.out]; rfl, hB⟩
      · have f0 : ¬ (97 : Int) ≤ (c : Int) := by omega
        have f1 : (c : Int) ≤ 122 := by omega
        have f2 : (65 : Int) ≤ (c : Int) := by omega
        have f3 : ¬ (c : Int) ≤ 90 := by omega
        have f4 : (48 : Int) ≤ (c : Int) := by omega
        have f5 : ¬ (c : Int) ≤ 57 := by omega
        have f6 : ((c : Int) == 95) = true := beq_iff_eq.2 (by omega)
        have f7 : ((c : Int) == 46) = false := beq_eq_false_iff_ne.2 (by omega)
        have f8 : ((c : Int) == 45) = false := beq_eq_false_iff_ne.2 (by omega)
        have HO : Hid (okN l (k + 1) = true) := by
          show _ = true
          rw [HN.out, HC.out, HV.out.1, HV.out.2]; simp; omega
        clear HN HC HX HV
        go_wp2
        go_roundw
        case rel => first | exact ⟨k + 1, by omega, by go_num, HO, hB⟩ | ((repeat apply Exists.intro); refine ⟨⟨k + 1, by omega, ?_, HO, hB⟩, rfl⟩; go_num)
        case measure => simp [intOf]; omega
      · have f0 : ¬ (97 : Int) ≤ (c : Int) := by omega
        have f1 : (c : Int) ≤ 122 := by omega
        have f2 : (65 : Int) ≤ (c : Int) := by omega
        have f3 : ¬ (c : Int) ≤ 90 := by omega
        have f4 : (48 : Int) ≤ (c : Int) := by omega
        have f5 : ¬ (c : Int) ≤ 57 := by omega
        have f6 : ((c : Int) == 95) = false := beq_eq_false_iff_ne.2 (by omega)
        have f7 : ((c : Int) == 46) = false := beq_eq_false_iff_ne.2 (by omega)
        have f8 : ((c : Int) == 45) = false := beq_eq_false_iff_ne.2 (by omega)
        by_cases hk9 : k = 0
        · have z0 : ¬ (0 : Int) < (k : Int) := by omega
          have HF : Hid (R = false) := HX.out (by rw [HC.out, HV.out.1, HV.out.2]; simp; omega)
          clear HN HC HX HV hk9
          go_wp2
          go_ret
          exact ⟨by rw [HF.out]; rfl, hB⟩
        · have z0 : (0 : Int) < (k : Int) := by omega
          have HF : Hid (R = false) := HX.out (by rw [HC.out, HV.out.1, HV.out.2]; simp; omega)
          clear HN HC HX HV hk9
          go_wp2
          go_ret
          exact ⟨by rw [HF.out]; rfl, hB⟩
      · have f0 : (97 : Int) ≤ (c : Int) := by omega
        have f1 : (c : Int) ≤ 122 := by omega
        have f2 : (65 : Int) ≤ (c : Int) := by omega
        have f3 : ¬ (c : Int) ≤ 90 := by omega
        have f4 : (48 : Int) ≤ (c : Int) := by omega
        have f5 : ¬ (c : Int) ≤ 57 := by omega
        have f6 : ((c : Int) == 95) = false := beq_eq_false_iff_ne.2 (by omega)
        have f7 : ((c : Int) == 46) = false := beq_eq_false_iff_ne.2 (by omega)
        have f8 : ((c : Int) == 45) = false := beq_eq_false_iff_ne.2 (by omega)
        have HO : Hid (okN l (k + 1) = true) := by
          show _ = true
          rw [HN.out, HC.out, HV.out.1, HV.out.2]; simp; omega
        clear HN HC HX HV
        go_wp2
        go_roundw
        case rel => first | exact ⟨k + 1, by omega, by go_num, HO, hB⟩ | ((repeat apply Exists.intro); refine ⟨⟨k + 1, by omega, ?_, HO, hB⟩, rfl⟩; go_num)
        case measure => simp [intOf]; omega
      · have f0 : (97 : Int) ≤ (c : Int) := by omega
        have f1 : ¬ (c : Int) ≤ 122 := by omega
        have f2 : (65 : Int) ≤ (c : Int) := by omega
        have f3 : ¬ (c : Int) ≤ 90 := by omega
        have f4 : (48 : Int) ≤ (c : Int) := by omega
        have f5 : ¬ (c : Int) ≤ 57 := by omega
        have f6 : ((c : Int) == 95) = false := beq_eq_false_iff_ne.2 (by omega)
        have f7 : ((c : Int) == 46) = false := beq_eq_false_iff_ne.2 (by omega)
        have f8 : ((c : Int) == 45) = false := beq_eq_false_iff_ne.2 (by omega)
        by_cases hk9 : k = 0
        · have z0 : ¬ (0 : Int) < (k : Int) := by omega
          have HF : Hid (R = false) := HX.out (by rw [HC.out, HV.out.1, HV.out.2]; simp; omega)
          clear HN HC HX HV hk9
          go_wp2
          go_ret
          exact ⟨by rw [HF.out]; rfl, hB⟩
        · have z0 : (0 : Int) < (k : Int) := by omega
          have HF : Hid (R = false) := HX.out (by rw [HC.out, HV.out.1, HV.out.2]; simp; omega)
          clear HN HC HX HV hk9
          go_wp2
          go_ret
          exact ⟨by rw [HF.out]; rfl, hB⟩
    · obtain rfl : k = n := by omega
      have hlt' : ¬ (k : Int) < (k : Int) := by omega
      have HF : Hid (R = true) := by show _ = _; rw [HL.out]; exact hok.out
      go_wp2
      go_ret
      exact ⟨by rw [HF.out]; rfl, hB⟩
end Go.Proofs.Ytfdigmlhjjdggaa
