import Derived.Test.YtiokdcffpnjkcaaDoorQLex5
namespace Go.Proofs.YtiokdcffpnjkcaaDoor
open Go.RowKit

/-! assayref14: inWord, number -/
theorem wd_cases (n : Nat) : n < 43 ∨ n = 43 ∨ n = 44 ∨ n = 45 ∨ n = 46 ∨ n = 47 ∨ (48 ≤ n ∧ n ≤ 57) ∨ (58 ≤ n ∧ n ≤ 64) ∨ (65 ≤ n ∧ n ≤ 90) ∨ (91 ≤ n ∧ n ≤ 94) ∨ n = 95 ∨ n = 96 ∨ (97 ≤ n ∧ n ≤ 122) ∨ 123 ≤ n := by omega
set_option linter.unusedSimpArgs false in
set_option maxHeartbeats 2000000 in
theorem refInW_any (b : UInt8) (w : World) : Calls Tryd.prog 34 #[.int .u8 (b.toNat : Int)] w fun e w' => e = .returned (.bool (inW b)) ∧ Below w.heap.size w w' := by
  obtain ⟨R, hR⟩ : ∃ q, inW b = q := ⟨_, rfl⟩
  obtain ⟨c, hc⟩ : ∃ q, b.toNat = q := ⟨_, rfl⟩
  have HV : Hid (R = (decide (97 ≤ c ∧ c ≤ 122) || decide (65 ≤ c ∧ c ≤ 90) || decide (48 ≤ c ∧ c ≤ 57) || decide (c = 95) || decide (c = 43) || decide (c = 45) || decide (c = 46))) := by show _ = _; rw [← hR, ← hc]; rfl
  rw [hR, hc]
  clear hR hc
  go_enter Tryd.func34, Tryd.ntmps34
  rcases wd_cases c with hcl | hcl | hcl | hcl | hcl | hcl | hcl | hcl | hcl | hcl | hcl | hcl | hcl | hcl
  · have f0 : ¬ (97 : Int) ≤ (c : Int) := by omega
    have f1 : (c : Int) ≤ 122 := by omega
    have f2 : ¬ (65 : Int) ≤ (c : Int) := by omega
    have f3 : (c : Int) ≤ 90 := by omega
    have f4 : ¬ (48 : Int) ≤ (c : Int) := by omega
    have f5 : (c : Int) ≤ 57 := by omega
    have f6 : ((c : Int) == 95) = false := beq_eq_false_iff_ne.2 (by omega)
    have f7 : ((c : Int) == 43) = false := beq_eq_false_iff_ne.2 (by omega)
    have f8 : ((c : Int) == 45) = false := beq_eq_false_iff_ne.2 (by omega)
    have f9 : ((c : Int) == 46) = false := beq_eq_false_iff_ne.2 (by omega)
    have HR : Hid (R = false) := by show _ = _; rw [HV.out]; simp; omega
    clear HV
    go_wp2
    go_ret
    exact ⟨by rw [HR.out]; first | rfl | simp_all, Below.refl _ _⟩
  · have f0 : ¬ (97 : Int) ≤ (c : Int) := by omega
    have f1 : (c : Int) ≤ 122 := by omega
    have f2 : ¬ (65 : Int) ≤ (c : Int) := by omega
    have f3 : (c : Int) ≤ 90 := by omega
    have f4 : ¬ (48 : Int) ≤ (c : Int) := by omega
    have f5 : (c : Int) ≤ 57 := by omega
    have f6 : ((c : Int) == 95) = false := beq_eq_false_iff_ne.2 (by omega)
    have f7 : ((c : Int) == 43) = true := beq_iff_eq.2 (by omega)
    have f8 : ((c : Int) == 45) = false := beq_eq_false_iff_ne.2 (by omega)
    have f9 : ((c : Int) == 46) = false := beq_eq_false_iff_ne.2 (by omega)
    have HR : Hid (R = true) := by show _ = _; rw [HV.out]; simp; omega
    clear HV
    go_wp2
    go_ret
    exact ⟨by rw [HR.out]; first | rfl | simp_all, Below.refl _ _⟩
  · have f0 : ¬ (97 : Int) ≤ (c : Int) := by omega
    have f1 : (c : Int) ≤ 122 := by omega
    have f2 : ¬ (65 : Int) ≤ (c : Int) := by omega
    have f3 : (c : Int) ≤ 90 := by omega
    have f4 : ¬ (48 : Int) ≤ (c : Int) := by omega
    have f5 : (c : Int) ≤ 57 := by omega
    have f6 : ((c : Int) == 95) = false := beq_eq_false_iff_ne.2 (by omega)
    have f7 : ((c : Int) == 43) = false := beq_eq_false_iff_ne.2 (by omega)
    have f8 : ((c : Int) == 45) = false := beq_eq_false_iff_ne.2 (by omega)
    have f9 : ((c : Int) == 46) = false := beq_eq_false_iff_ne.2 (by omega)
    have HR : Hid (R = false) := by show _ = _; rw [HV.out]; simp; omega
    clear HV
    go_wp2
    go_ret
    exact ⟨by rw [HR.out]; first | rfl | simp_all, Below.refl _ _⟩
  · have f0 : ¬ (97 : Int) ≤ (c : Int) := by omega
    have f1 : (c : Int) ≤ 122 := by omega
    have f2 : ¬ (65 : Int) ≤ (c : Int) := by omega
    have f3 : (c : Int) ≤ 90 := by omega
    have f4 : ¬ (48 : Int) ≤ (c : Int) := by omega
    have f5 : (c : Int) ≤ 57 := by omega
    have f6 : ((c : Int) == 95) = false := beq_eq_false_iff_ne.2 (by omega)
    have f7 : ((c : Int) == 43) = false := beq_eq_false_iff_ne.2 (by omega)
    have f8 : ((c : Int) == 45) = true := beq_iff_eq.2 (by omega)
    have f9 : ((c : Int) == 46) = false := beq_eq_false_iff_ne.2 (by omega)
    have HR : Hid (R = true) := by show _ = _; rw [HV.out]; simp; omega
    clear HV
    go_wp2
    go_ret
    exact ⟨by rw [HR.out]; first | rfl | simp_all, Below.refl _ _⟩
  · have f0 : ¬ (97 : Int) ≤ (c : Int) := by omega
    have f1 : (c : Int) ≤ 122 := by omega
    have f2 : ¬ (65 : Int) ≤ (c : Int) := by omega
    have f3 : (c : Int) ≤ 90 := by omega
    have f4 : ¬ (48 : Int) ≤ (c : Int) := by omega
    have f5 : (c : Int) ≤ 57 := by omega
    have f6 : ((c : Int) == 95) = false := beq_eq_false_iff_ne.2 (by omega)
    have f7 : ((c : Int) == 43) = false := beq_eq_false_iff_ne.2 (by omega)
    have f8 : ((c : Int) == 45) = false := beq_eq_false_iff_ne.2 (by omega)
    have f9 : ((c : Int) == 46) = true := beq_iff_eq.2 (by omega)
    have HR : Hid (R = true) := by show _ = _; rw [HV.out]; simp; omega
    clear HV
    go_wp2
    go_ret
    exact ⟨by rw [HR.out]; first | rfl | simp_all, Below.refl _ _⟩
  · have f0 : ¬ (97 : Int) ≤ (c : Int) := by omega
    have f1 : (c : Int) ≤ 122 := by omega
    have f2 : ¬ (65 : Int) ≤ (c : Int) := by omega
    have f3 : (c : Int) ≤ 90 := by omega
    have f4 : ¬ (48 : Int) ≤ (c : Int) := by omega
    have f5 : (c : Int) ≤ 57 := by omega
    have f6 : ((c : Int) == 95) = false := beq_eq_false_iff_ne.2 (by omega)
    have f7 : ((c : Int) == 43) = false := beq_eq_false_iff_ne.2 (by omega)
    have f8 : ((c : Int) == 45) = false := beq_eq_false_iff_ne.2 (by omega)
    have f9 : ((c : Int) == 46) = false := beq_eq_false_iff_ne.2 (by omega)
    have HR : Hid (R = false) := by show _ = _; rw [HV.out]; simp; omega
    clear HV
    go_wp2
    go_ret
    exact ⟨by rw [HR.out]; first | rfl | simp_all, Below.refl _ _⟩
  · have f0 : ¬ (97 : Int) ≤ (c : Int) := by omega
    have f1 : (c : Int) ≤ 122 := by omega
    have f2 : ¬ (65 : Int) ≤ (c : Int) := by omega
    have f3 : (c : Int) ≤ 90 := by omega
    have f4 : (48 : Int) ≤ (c : Int) := by omega
    have f5 : (c : Int) ≤ 57 := by omega
    have f6 : ((c : Int) == 95) = false := beq_eq_false_iff_ne.2 (by omega)
    have f7 : ((c : Int) == 43) = false := beq_eq_false_iff_ne.2 (by omega)
    have f8 : ((c : Int) == 45) = false := beq_eq_false_iff_ne.2 (by omega)
    have f9 : ((c : Int) == 46) = false := beq_eq_false_iff_ne.2 (by omega)
    have HR : Hid (R = true) := by show _ = _; rw [HV.out]; simp; omega
    clear HV
    go_wp2
    go_ret
    exact ⟨by rw [HR.out]; first | rfl | simp_all, Below.refl _ _⟩
  · have f0 : ¬ (97 : Int) ≤ (c : Int) := by omega
    have f1 : (c : Int) ≤ 122 := by omega
    have f2 : ¬ (65 : Int) ≤ (c : Int) := by omega
    have f3 : (c : Int) ≤ 90 := by omega
    have f4 : (48 : Int) ≤ (c : Int) := by omega
    have f5 : ¬ (c : Int) ≤ 57 := by omega
    have f6 : ((c : Int) == 95) = false := beq_eq_false_iff_ne.2 (by omega)
    have f7 : ((c : Int) == 43) = false := beq_eq_false_iff_ne.2 (by omega)
    have f8 : ((c : Int) == 45) = false := beq_eq_false_iff_ne.2 (by omega)
    have f9 : ((c : Int) == 46) = false := beq_eq_false_iff_ne.2 (by omega)
    have HR : Hid (R = false) := by show _ = _; rw [HV.out]; simp; omega
    clear HV
    go_wp2
    go_ret
    exact ⟨by rw [HR.out]; first | rfl | simp_all, Below.refl _ _⟩
  · have f0 : ¬ (97 : Int) ≤ (c : Int) := by omega
    have f1 : (c : Int) ≤ 122 := by omega
    have f2 : (65 : Int) ≤ (c : Int) := by omega
    have f3 : (c : Int) ≤ 90 := by omega
    have f4 : (48 : Int) ≤ (c : Int) := by omega
    have f5 : ¬ (c : Int) ≤ 57 := by omega
    have f6 : ((c : Int) == 95) = false := beq_eq_false_iff_ne.2 (by omega)
    have f7 : ((c : Int) == 43) = false := beq_eq_false_iff_ne.2 (by omega)
    have f8 : ((c : Int) == 45) = false := beq_eq_false_iff_ne.2 (by omega)
    have f9 : ((c : Int) == 46) = false := beq_eq_false_iff_ne.2 (by omega)
    have HR : Hid (R = true) := by show _ = _; rw [HV.out]; simp; omega
    clear HV
    go_wp2
    go_ret
    exact ⟨by rw [HR.out]; first | rfl | simp_all, Below.refl _ _⟩
  · have f0 : ¬ (97 : Int) ≤ (c : Int) := by omega
    have f1 : (c : Int) ≤ 122 := by omega
    have f2 : (65 : Int) ≤ (c : Int) := by omega
    have f3 : ¬ (c : Int) ≤ 90 := by omega
    have f4 : (48 : Int) ≤ (c : Int) := by omega
    have f5 : ¬ (c : Int) ≤ 57 := by omega
    have f6 : ((c : Int) == 95) = false := beq_eq_false_iff_ne.2 (by omega)
    have f7 : ((c : Int) == 43) = false := beq_eq_false_iff_ne.2 (by omega)
    have f8 : ((c : Int) == 45) = false := beq_eq_false_iff_ne.2 (by omega)
    have f9 : ((c : Int) == 46) = false := beq_eq_false_iff_ne.2 (by omega)
    have HR : Hid (R = false) := by show _ = _; rw [HV.out]; simp; omega
    clear HV
    go_wp2
    go_ret
    exact ⟨by rw [HR.out]; first | rfl | simp_all, Below.refl _ _⟩
  · have f0 : ¬ (97 : Int) ≤ (c : Int) := by omega
    have f1 : (c : Int) ≤ 122 := by omega
    have f2 : (65 : Int) ≤ (c : Int) := by omega
    have f3 : ¬ (c : Int) ≤ 90 := by omega
    have f4 : (48 : Int) ≤ (c : Int) := by omega
    have f5 : ¬ (c : Int) ≤ 57 := by omega
    have f6 : ((c : Int) == 95) = true := beq_iff_eq.2 (by omega)
    have f7 : ((c : Int) == 43) = false := beq_eq_false_iff_ne.2 (by omega)
    have f8 : ((c : Int) == 45) = false := beq_eq_false_iff_ne.2 (by omega)
    have f9 : ((c : Int) == 46) = false := beq_eq_false_iff_ne.2 (by omega)
    have HR : Hid (R = true) := by show _ = _; rw [HV.out]; simp; omega
    clear HV
    go_wp2
    go_ret
    exact ⟨by rw [HR.out]; first | rfl | simp_all, Below.refl _ _⟩
  · have f0 : ¬ (97 : Int) ≤ (c : Int) := by omega
    have f1 : (c : Int) ≤ 122 := by omega
    have f2 : (65 : Int) ≤ (c : Int) := by omega
    have f3 : ¬ (c : Int) ≤ 90 := by omega
    have f4 : (48 : Int) ≤ (c : Int) := by omega
    have f5 : ¬ (c : Int) ≤ 57 := by omega
    have f6 : ((c : Int) == 95) = false := beq_eq_false_iff_ne.2 (by omega)
    have f7 : ((c : Int) == 43) = false := beq_eq_false_iff_ne.2 (by omega)
    have f8 : ((c : Int) == 45) = false := beq_eq_false_iff_ne.2 (by omega)
    have f9 : ((c : Int) == 46) = false := beq_eq_false_iff_ne.2 (by omega)
    have HR : Hid (R = false) := by show _ = _; rw [HV.out]; simp; omega
    clear HV
    go_wp2
    go_ret
    exact ⟨by rw [HR.out]; first | rfl | simp_all, Below.refl _ _⟩
  · have f0 : (97 : Int) ≤ (c : Int) := by omega
    have f1 : (c : Int) ≤ 122 := by omega
    have f2 : (65 : Int) ≤ (c : Int) := by omega
    have f3 : ¬ (c : Int) ≤ 90 := by omega
    have f4 : (48 : Int) ≤ (c : Int) := by omega
    have f5 : ¬ (c : Int) ≤ 57 := by omega
    have f6 : ((c : Int) == 95) = false := beq_eq_false_iff_ne.2 (by omega)
    have f7 : ((c : Int) == 43) = false := beq_eq_false_iff_ne.2 (by omega)
    have f8 : ((c : Int) == 45) = false := beq_eq_false_iff_ne.2 (by omega)
    have f9 : ((c : Int) == 46) = false := beq_eq_false_iff_ne.2 (by omega)
    have HR : Hid (R = true) := by show _ = _; rw [HV.out]; simp; omega
    clear HV
    go_wp2
    go_ret
    exact ⟨by rw [HR.out]; first | rfl | simp_all, Below.refl _ _⟩
  · have f0 : (97 : Int) ≤ (c : Int) := by omega
    have f1 : ¬ (c : Int) ≤ 122 := by omega
    have f2 : (65 : Int) ≤ (c : Int) := by omega
    have f3 : ¬ (c : Int) ≤ 90 := by omega
    have f4 : (48 : Int) ≤ (c : Int) := by omega
    have f5 : ¬ (c : Int) ≤ 57 := by omega
    have f6 : ((c : Int) == 95) = false := beq_eq_false_iff_ne.2 (by omega)
    have f7 : ((c : Int) == 43) = false := beq_eq_false_iff_ne.2 (by omega)
    have f8 : ((c : Int) == 45) = false := beq_eq_false_iff_ne.2 (by omega)
    have f9 : ((c : Int) == 46) = false := beq_eq_false_iff_ne.2 (by omega)
    have HR : Hid (R = false) := by show _ = _; rw [HV.out]; simp; omega
    clear HV
    go_wp2
    go_ret
    exact ⟨by rw [HR.out]; first | rfl | simp_all, Below.refl _ _⟩
def bdN : Nat → Nat
  | 0 => 1
  | k + 1 => 10 * bdN k
theorem bdN_le : ∀ k, k ≤ 18 → bdN k ≤ 1000000000000000000
  | 0, _ => by decide
  | 1, _ => by decide
  | 2, _ => by decide
  | 3, _ => by decide
  | 4, _ => by decide
  | 5, _ => by decide
  | 6, _ => by decide
  | 7, _ => by decide
  | 8, _ => by decide
  | 9, _ => by decide
  | 10, _ => by decide
  | 11, _ => by decide
  | 12, _ => by decide
  | 13, _ => by decide
  | 14, _ => by decide
  | 15, _ => by decide
  | 16, _ => by decide
  | 17, _ => by decide
  | 18, _ => by decide
  | k + 19, h => by omega
theorem nmV_none (l : List UInt8) (k : Nat) : ∀ n, k ≤ n → nmV l k = none → nmV l n = none := by
  intro n
  induction n with
  | zero => intro h h1; obtain rfl : k = 0 := by omega
            exact h1
  | succ n ih =>
    intro h h1
    rcases Nat.lt_or_ge k (n + 1) with h2 | h2
    · rw [nmV, ih (by omega) h1]
    · obtain rfl : k = n + 1 := by omega
      exact h1
def numV : Option Nat → Int
  | none => -1
  | some v => if 9223372036854775807 < v then -1 else (v : Int)
theorem num_V (l : List UInt8) (h : ¬ (l.length = 0 ∨ 19 < l.length ∨ (1 < l.length ∧ lB l 0 = 48))) : numW l = numV (nmV l l.length) := by
  unfold numW
  rw [if_neg h]
  cases nmV l l.length <;> rfl
set_option linter.unusedSimpArgs false in
set_option maxRecDepth 100000 in
set_option maxHeartbeats 4000000 in
theorem refNum_any (s : ByteArray) (w : World) (h63 : s.size ≤ 9223372036854775807) : Calls Tryd.prog 35 #[.string s] w fun e w' => e = .returned (.int .i64 (numW (lS s))) ∧ Below w.heap.size w w' := by
  have hls := lS_len s
  obtain ⟨l, hl⟩ : ∃ q, lS s = q := ⟨_, rfl⟩
  rw [hl] at hls ⊢
  obtain ⟨p, hp⟩ : ∃ q, s.size = q := ⟨_, rfl⟩
  rw [hp] at hls h63
  obtain ⟨R, hR⟩ : ∃ q, numW l = q := ⟨_, rfl⟩
  have HR : Hid (numW l = R) := hR
  rw [hR]
  clear hR
  go_enter Tryd.func35, Tryd.ntmps35
  by_cases h0 : p = 0
  · have i0 : ((p : Int) == 0) = true := beq_iff_eq.2 (by omega)
    have HP : Hid (R = -1) := by show _ = _; rw [← HR.out]; unfold numW; rw [if_pos (.inl (by omega))]
    clear h0
    go_wp2
    go_ret
    exact ⟨by rw [HP.out]; rfl, Below.refl _ _⟩
  have i0 : ((p : Int) == 0) = false := beq_eq_false_iff_ne.2 (by omega)
  by_cases h19 : 19 < p
  · have i1 : (19 : Int) < (p : Int) := by omega
    have HP : Hid (R = -1) := by show _ = _; rw [← HR.out]; unfold numW; rw [if_pos (.inr (.inl (by omega)))]
    go_wp2
    go_ret
    exact ⟨by rw [HP.out]; rfl, Below.refl _ _⟩
  have i1 : ¬ (19 : Int) < (p : Int) := by omega
  have i9 : (0 : Int) < (p : Int) := by omega
  obtain ⟨b0, hb0⟩ : ∃ q, lB l 0 = q := ⟨_, rfl⟩
  have hat : ∀ W, (sAt (.string s) (.int .i64 0)).run Tryd.prog W = .ok (.value (.int .u8 (b0.toNat : Int))) W := fun W => by
    have := run_sAt W s 0 (by rw [hp]; omega)
    rw [hl, hb0] at this; exact this
  have MAIN : (1 < p → ¬ b0 = 48) → Hid (R = numV (nmV l p)) := fun h => by
    show R = _
    rw [← HR.out, num_V l (by rw [hb0]; rintro (h1 | h1 | h1); omega; omega; exact h (by omega) h1.2), hls]
  by_cases h1 : 1 < p
  · have i2 : (1 : Int) < (p : Int) := by omega
    by_cases h48 : b0 = 48
    · have f0 : ((b0.toNat : Int) == 48) = true := by rw [h48]; rfl
      have HP : Hid (R = -1) := by show _ = _; rw [← HR.out]; unfold numW; rw [if_pos (.inr (.inr ⟨by omega, by rw [hb0]; exact h48⟩))]
      clear MAIN h48
      go_wp2
      go_ret
      exact ⟨by rw [HP.out]; rfl, Below.refl _ _⟩
    · have f0 : ((b0.toNat : Int) == 48) = false := beq_eq_false_iff_ne.2 (fun e => h48 (UInt8.toNat_inj.1 (by show b0.toNat = 48; omega)))
      have HM := MAIN (fun _ => h48)
      clear MAIN h48
      go_wp2_with fail
      clear hat
      go_loopw [3, 4] (fun vv iv wr => ∃ k v : Nat, k ≤ p ∧ vv = .int .u64 v ∧ iv = .int .i64 k ∧ v < bdN k ∧ Hid (nmV l k = some v) ∧ wr = w) (fun _ iv _ => p - (intOf iv).toNat)
      case atStart => exact ⟨0, 0, by omega, rfl, rfl, by decide, rfl, rfl⟩
      case round =>
        obtain ⟨k, v, hk, rfl, rfl, hvb, HV, rfl⟩ := hrel
        by_cases hlt : k < p
        · have q0 : (0 : Int) ≤ (k : Int) := by omega
          have q1 : (k : Int) < (p : Int) := by omega
          have hbd := bdN_le k (by omega)
          have hd8 := (lB l k).toNat_lt
          have HX : Hid (nmV l (k + 1) = if (lB l k).toNat < 48 ∨ 57 < (lB l k).toNat then none else some (10 * v + (lB l k).toNat - 48)) := by
            show nmV l (k + 1) = _
            rw [nmV, show nmV l k = some v from HV.out]
          have HBD : Hid (bdN (k + 1) = 10 * bdN k) := rfl
          obtain ⟨d, hd⟩ : ∃ q, (lB l k).toNat = q := ⟨_, rfl⟩
          rw [hd] at HX hd8
          clear HV
          by_cases hok : d < 48 ∨ 57 < d
          · have HP : Hid (R = -1) := by
              show _ = _
              rw [HM.out, nmV_none l (k + 1) p (by omega) (by rw [HX.out, if_pos hok])]; rfl
            clear HX HBD HM
            by_cases hl4 : d < 48
            · have y0 : (d : Int) < 48 := by omega
              clear hok
              go_wp2
              go_ret
              exact ⟨by rw [HP.out]; rfl, Below.refl _ _⟩
            · have y0 : ¬ (d : Int) < 48 := by omega
              have y1 : (57 : Int) < (d : Int) := by omega
              clear hok
              go_wp2
              go_ret
              exact ⟨by rw [HP.out]; rfl, Below.refl _ _⟩
          · have y0 : ¬ (d : Int) < 48 := by omega
            have y1 : ¬ (57 : Int) < (d : Int) := by omega
            obtain ⟨v1, hv1⟩ : ∃ q, 10 * v + d - 48 = q := ⟨_, rfl⟩
            have HV2 : Hid (nmV l (k + 1) = some v1) := by show _ = _; rw [HX.out, if_neg hok, hv1]
            have HB2 : Hid (v1 < bdN (k + 1)) := by show _ < _; rw [HBD.out]; omega
            have y2 : (10 : Int) * (v : Int) + (d : Int) - 48 = (v1 : Int) := by omega
            clear HX HBD hv1 hok
            go_wp2
            go_roundw
            case rel => first | exact ⟨k + 1, v1, by omega, by first | rfl | go_num, by go_num, HB2.out, HV2, by trivial⟩ | ((repeat apply Exists.intro); refine ⟨⟨k + 1, v1, by omega, ?_, ?_, HB2.out, HV2, by trivial⟩, rfl⟩ <;> first | rfl | go_num)
            case measure => simp [intOf]; omega
        · obtain rfl : k = p := by omega
          have hlt' : ¬ (k : Int) < (k : Int) := by omega
          have HF : Hid (R = if 9223372036854775807 < v then -1 else (v : Int)) := by show _ = _; rw [HM.out, show nmV l k = some v from HV.out]; rfl
          clear HV HM
          by_cases hbig : 9223372036854775807 < v
          · have y0 : (9223372036854775807 : Int) < (v : Int) := by omega
            have HP : Hid (R = -1) := by show _ = _; rw [HF.out, if_pos hbig]
            clear HF
            go_wp2
            go_ret
            exact ⟨by rw [HP.out]; rfl, Below.refl _ _⟩
          · have y0 : ¬ (9223372036854775807 : Int) < (v : Int) := by omega
            have HP : Hid (R = (v : Int)) := by show _ = _; rw [HF.out, if_neg hbig]
            clear HF
            go_wp2
            go_ret
            exact ⟨by rw [HP.out]; rfl, Below.refl _ _⟩
  · have i2 : ¬ (1 : Int) < (p : Int) := by omega
    have HM := MAIN (fun h => absurd h h1)
    clear MAIN
    go_wp2_with fail
    clear hat
    go_loopw [3, 4] (fun vv iv wr => ∃ k v : Nat, k ≤ p ∧ vv = .int .u64 v ∧ iv = .int .i64 k ∧ v < bdN k ∧ Hid (nmV l k = some v) ∧ wr = w) (fun _ iv _ => p - (intOf iv).toNat)
    case atStart => exact ⟨0, 0, by omega, rfl, rfl, by decide, rfl, rfl⟩
    case round =>
      obtain ⟨k, v, hk, rfl, rfl, hvb, HV, rfl⟩ := hrel
      by_cases hlt : k < p
      · have q0 : (0 : Int) ≤ (k : Int) := by omega
        have q1 : (k : Int) < (p : Int) := by omega
        have hbd := bdN_le k (by omega)
        have hd8 := (lB l k).toNat_lt
        have HX : Hid (nmV l (k + 1) = if (lB l k).toNat < 48 ∨ 57 < (lB l k).toNat then none else some (10 * v + (lB l k).toNat - 48)) := by
          show nmV l (k + 1) = _
          rw [nmV, show nmV l k = some v from HV.out]
        have HBD : Hid (bdN (k + 1) = 10 * bdN k) := rfl
        obtain ⟨d, hd⟩ : ∃ q, (lB l k).toNat = q := ⟨_, rfl⟩
        rw [hd] at HX hd8
        clear HV
        by_cases hok : d < 48 ∨ 57 < d
        · have HP : Hid (R = -1) := by
            show _ = _
            rw [HM.out, nmV_none l (k + 1) p (by omega) (by rw [HX.out, if_pos hok])]; rfl
          clear HX HBD HM
          by_cases hl4 : d < 48
          · have y0 : (d : Int) < 48 := by omega
            clear hok
            go_wp2
            go_ret
            exact ⟨by rw [HP.out]; rfl, Below.refl _ _⟩
          · have y0 : ¬ (d : Int) < 48 := by omega
            have y1 : (57 : Int) < (d : Int) := by omega
            clear hok
            go_wp2
            go_ret
            exact ⟨by rw [HP.out]; rfl, Below.refl _ _⟩
        · have y0 : ¬ (d : Int) < 48 := by omega
          have y1 : ¬ (57 : Int) < (d : Int) := by omega
          obtain ⟨v1, hv1⟩ : ∃ q, 10 * v + d - 48 = q := ⟨_, rfl⟩
          have HV2 : Hid (nmV l (k + 1) = some v1) := by show _ = _; rw [HX.out, if_neg hok, hv1]
          have HB2 : Hid (v1 < bdN (k + 1)) := by show _ < _; rw [HBD.out]; omega
          have y2 : (10 : Int) * (v : Int) + (d : Int) - 48 = (v1 : Int) := by omega
          clear HX HBD hv1 hok
          go_wp2
          go_roundw
          case rel => first | exact ⟨k + 1, v1, by omega, by first | rfl | go_num, by go_num, HB2.out, HV2, by trivial⟩ | ((repeat apply Exists.intro); refine ⟨⟨k + 1, v1, by omega, ?_, ?_, HB2.out, HV2, by trivial⟩, rfl⟩ <;> first | rfl | go_num)
          case measure => simp [intOf]; omega
      · obtain rfl : k = p := by omega
        have hlt' : ¬ (k : Int) < (k : Int) := by omega
        have HF : Hid (R = if 9223372036854775807 < v then -1 else (v : Int)) := by show _ = _; rw [HM.out, show nmV l k = some v from HV.out]; rfl
        clear HV HM
        by_cases hbig : 9223372036854775807 < v
        · have y0 : (9223372036854775807 : Int) < (v : Int) := by omega
          have HP : Hid (R = -1) := by show _ = _; rw [HF.out, if_pos hbig]
          clear HF
          go_wp2
          go_ret
          exact ⟨by rw [HP.out]; rfl, Below.refl _ _⟩
        · have y0 : ¬ (9223372036854775807 : Int) < (v : Int) := by omega
          have HP : Hid (R = (v : Int)) := by show _ = _; rw [HF.out, if_neg hbig]
          clear HF
          go_wp2
          go_ret
          exact ⟨by rw [HP.out]; rfl, Below.refl _ _⟩
end Go.Proofs.YtiokdcffpnjkcaaDoor
