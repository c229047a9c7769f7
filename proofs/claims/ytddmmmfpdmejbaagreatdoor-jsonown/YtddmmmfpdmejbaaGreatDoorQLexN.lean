import Derived.Test.YtddmmmfpdmejbaaGreatDoorQNum
namespace Go.Proofs.YtddmmmfpdmejbaaGreatDoor
open Go.RowKit

/-! What is encoded is decoded, and back -/
theorem u8_at (n : Nat) (h : n < 256) : (u8 n).toNat = n := by unfold u8; rw [UInt8.toNat_ofNat']; omega
def vR (v : Nat) : Prop := v ≤ 1114111 ∧ ¬ (55296 ≤ v ∧ v ≤ 57343)
theorem rn_b (l : List UInt8) (b : Nat) (h0 : l.length ≠ 0) (hb : (lB l 0).toNat = b) : rn l = (if b < 128 then (b, 1) else if 192 ≤ b ∧ b < 224 then rnN l 2 (b - 192) else if 224 ≤ b ∧ b < 240 then rnN l 3 (b - 224) else if 240 ≤ b ∧ b < 248 then rnN l 4 (b - 240) else (0, 0)) := by
  subst hb; unfold rn; rw [if_neg h0]
theorem cv_step (l : List UInt8) (v0 k v b : Nat) (h : cvR l v0 k = some v) (hb : (lB l (k + 1)).toNat = 128 + b) (h64 : b < 64) : cvR l v0 (k + 1) = some (64 * v + b) := by
  rw [cvR, h]
  simp only
  have hc : isC (lB l (k + 1)) = true := by unfold isC; rw [hb, decide_eq_true]; omega
  rw [hc, if_pos rfl, hb, show 64 * v + (128 + b) - 128 = 64 * v + b by omega]
theorem rnN_some (l : List UInt8) (n v0 v : Nat) (hl : ¬ l.length < n) (hc : cvR l v0 (n - 1) = some v) (ok : okR n v = true) : rnN l n v0 = (v, n) := by
  unfold rnN
  rw [if_neg hl, hc]
  simp only [ok, if_true]
theorem rn_enc (v : Nat) (hv : vR v) (r : List UInt8) : rn (enc v ++ r) = (v, (enc v).length) := by
  obtain ⟨h1, h2⟩ := hv
  unfold enc
  by_cases a1 : v < 128
  · rw [if_pos a1]
    rw [rn_b ([u8 v] ++ r) v (by simp) (show (u8 v).toNat = v from u8_at v (by omega)), if_pos a1]; rfl
  by_cases a2 : v < 2048
  · rw [if_neg a1, if_pos a2]
    rw [rn_b ([u8 (192 + v / 64), u8 (128 + v % 64)] ++ r) (192 + v / 64) (by simp) (show (u8 (192 + v / 64)).toNat = 192 + v / 64 from u8_at _ (by omega)), if_neg (by omega), if_pos (by omega)]
    have c1 := cv_step ([u8 (192 + v / 64), u8 (128 + v % 64)] ++ r) (192 + v / 64 - 192) 0 _ (v % 64) rfl (show (u8 (128 + v % 64)).toNat = _ from u8_at _ (by omega)) (by omega)
    rw [show 64 * (192 + v / 64 - 192) + v % 64 = v by omega] at c1
    exact rnN_some _ 2 _ v (by simp) c1 (by unfold okR leastR; rw [decide_eq_true]; simp; omega)
  by_cases a3 : v < 65536
  · rw [if_neg a1, if_neg a2, if_pos a3]
    rw [rn_b ([u8 (224 + v / 4096), u8 (128 + v / 64 % 64), u8 (128 + v % 64)] ++ r) (224 + v / 4096) (by simp) (show (u8 (224 + v / 4096)).toNat = 224 + v / 4096 from u8_at _ (by omega)), if_neg (by omega), if_neg (by omega), if_pos (by omega)]
    have c1 := cv_step ([u8 (224 + v / 4096), u8 (128 + v / 64 % 64), u8 (128 + v % 64)] ++ r) (224 + v / 4096 - 224) 0 _ (v / 64 % 64) rfl (show (u8 (128 + v / 64 % 64)).toNat = _ from u8_at _ (by omega)) (by omega)
    have c2 := cv_step _ _ 1 _ (v % 64) c1 (show (u8 (128 + v % 64)).toNat = _ from u8_at _ (by omega)) (by omega)
    rw [show 64 * (64 * (224 + v / 4096 - 224) + v / 64 % 64) + v % 64 = v by omega] at c2
    exact rnN_some _ 3 _ v (by simp) c2 (by unfold okR leastR; rw [decide_eq_true]; simp; omega)
  · rw [if_neg a1, if_neg a2, if_neg a3]
    rw [rn_b ([u8 (240 + v / 262144), u8 (128 + v / 4096 % 64), u8 (128 + v / 64 % 64), u8 (128 + v % 64)] ++ r) (240 + v / 262144) (by simp) (show (u8 (240 + v / 262144)).toNat = 240 + v / 262144 from u8_at _ (by omega)), if_neg (by omega), if_neg (by omega), if_neg (by omega), if_pos (by omega)]
    have c1 := cv_step ([u8 (240 + v / 262144), u8 (128 + v / 4096 % 64), u8 (128 + v / 64 % 64), u8 (128 + v % 64)] ++ r) (240 + v / 262144 - 240) 0 _ (v / 4096 % 64) rfl (show (u8 (128 + v / 4096 % 64)).toNat = _ from u8_at _ (by omega)) (by omega)
    have c2 := cv_step _ _ 1 _ (v / 64 % 64) c1 (show (u8 (128 + v / 64 % 64)).toNat = _ from u8_at _ (by omega)) (by omega)
    have c3 := cv_step _ _ 2 _ (v % 64) c2 (show (u8 (128 + v % 64)).toNat = _ from u8_at _ (by omega)) (by omega)
    rw [show 64 * (64 * (64 * (240 + v / 262144 - 240) + v / 4096 % 64) + v / 64 % 64) + v % 64 = v by omega] at c3
    exact rnN_some _ 4 _ v (by simp) c3 (by unfold okR leastR; rw [decide_eq_true]; simp; omega)
theorem cv_inv (l : List UInt8) (v0 k v : Nat) (h : cvR l v0 (k + 1) = some v) : ∃ u b, cvR l v0 k = some u ∧ b < 64 ∧ (lB l (k + 1)).toNat = 128 + b ∧ v = 64 * u + b := by
  rw [cvR] at h
  cases hu : cvR l v0 k with
  | none => rw [hu] at h; cases h
  | some u =>
    rw [hu] at h
    simp only at h
    split at h
    · rename_i hc
      unfold isC at hc
      rw [decide_eq_true_eq] at hc
      have hv := Option.some.inj h
      exact ⟨u, (lB l (k + 1)).toNat - 128, rfl, by omega, by omega, by omega⟩
    · cases h
theorem rnN_inv (l : List UInt8) (n v0 v m : Nat) (h : rnN l n v0 = (v, m)) (hm : m ≠ 0) : m = n ∧ n ≤ l.length ∧ cvR l v0 (n - 1) = some v ∧ okR n v = true := by
  unfold rnN at h
  split at h
  · cases h; exact absurd rfl hm
  · rename_i hl
    split at h
    · cases h; exact absurd rfl hm
    · rename_i u hu
      split at h
      · rename_i ok
        cases h
        exact ⟨rfl, by omega, hu, ok⟩
      · cases h; exact absurd rfl hm
theorem u8_back (b : UInt8) : u8 b.toNat = b := by unfold u8; simp
theorem lB_u8 (l : List UInt8) (k n : Nat) (h : (lB l k).toNat = n) : lB l k = u8 n := by rw [← h, u8_back]
theorem okR_iff (n v : Nat) : okR n v = true ↔ leastR n ≤ v ∧ v ≤ 1114111 ∧ ¬ (55296 ≤ v ∧ v ≤ 57343) := by unfold okR; rw [decide_eq_true_eq]
theorem take1 (l : List UInt8) (h : 1 ≤ l.length) : l.take 1 = [lB l 0] := by
  match l, h with
  | a :: r, _ => rfl
theorem take2 (l : List UInt8) (h : 2 ≤ l.length) : l.take 2 = [lB l 0, lB l 1] := by
  match l, h with
  | a :: b :: r, _ => rfl
theorem take3 (l : List UInt8) (h : 3 ≤ l.length) : l.take 3 = [lB l 0, lB l 1, lB l 2] := by
  match l, h with
  | a :: b :: c :: r, _ => rfl
theorem take4 (l : List UInt8) (h : 4 ≤ l.length) : l.take 4 = [lB l 0, lB l 1, lB l 2, lB l 3] := by
  match l, h with
  | a :: b :: c :: d :: r, _ => rfl
/-- A rune's bytes are the ones that it is encoded by. -/
theorem enc_rn (l : List UInt8) (v n : Nat) (h : rn l = (v, n)) (hn : n ≠ 0) : l.take n = enc v ∧ vR v ∧ n ≤ l.length := by
  by_cases h0 : l.length = 0
  · unfold rn at h; rw [if_pos h0] at h; cases h; exact absurd rfl hn
  rw [rn_b l _ h0 rfl] at h
  split at h
  · rename_i hb
    cases h
    have h1 : enc (lB l 0).toNat = [lB l 0] := by unfold enc; rw [if_pos hb, u8_back]
    exact ⟨by rw [h1]; exact take1 l (by omega), ⟨by omega, by omega⟩, by omega⟩
  split at h
  · rename_i hb1 hb
    obtain ⟨rfl, hl, hc, ok⟩ := rnN_inv _ _ _ _ _ h hn
    obtain ⟨u, b, e1, e2, e3, e4⟩ := cv_inv l _ 0 v hc
    have e5 := Option.some.inj e1
    rw [okR_iff] at ok
    have hle : leastR 2 = 128 := rfl
    have h1 : enc v = [lB l 0, lB l 1] := by
      unfold enc
      rw [if_neg (by omega), if_pos (by omega), lB_u8 l 0 (192 + v / 64) (by omega), lB_u8 l 1 (128 + v % 64) (by rw [e3]; omega)]
    exact ⟨by rw [h1]; exact take2 l hl, ⟨ok.2.1, ok.2.2⟩, hl⟩
  split at h
  · rename_i hb1 hb2 hb
    obtain ⟨rfl, hl, hc, ok⟩ := rnN_inv _ _ _ _ _ h hn
    obtain ⟨u, b, e1, e2, e3, e4⟩ := cv_inv l _ 1 v hc
    obtain ⟨u', b', f1, f2, f3, f4⟩ := cv_inv l _ 0 u e1
    have e5 := Option.some.inj f1
    rw [okR_iff] at ok
    have hle : leastR 3 = 2048 := rfl
    have h1 : enc v = [lB l 0, lB l 1, lB l 2] := by
      unfold enc
      rw [if_neg (by omega), if_neg (by omega), if_pos (by omega), lB_u8 l 0 (224 + v / 4096) (by omega), lB_u8 l 1 (128 + v / 64 % 64) (by rw [f3]; omega), lB_u8 l 2 (128 + v % 64) (by rw [e3]; omega)]
    exact ⟨by rw [h1]; exact take3 l hl, ⟨ok.2.1, ok.2.2⟩, hl⟩
  split at h
  · rename_i hb1 hb2 hb3 hb
    obtain ⟨rfl, hl, hc, ok⟩ := rnN_inv _ _ _ _ _ h hn
    obtain ⟨u, b, e1, e2, e3, e4⟩ := cv_inv l _ 2 v hc
    obtain ⟨u', b', f1, f2, f3, f4⟩ := cv_inv l _ 1 u e1
    obtain ⟨u'', b'', g1, g2, g3, g4⟩ := cv_inv l _ 0 u' f1
    have e5 := Option.some.inj g1
    rw [okR_iff] at ok
    have hle : leastR 4 = 65536 := rfl
    have h1 : enc v = [lB l 0, lB l 1, lB l 2, lB l 3] := by
      unfold enc
      rw [if_neg (by omega), if_neg (by omega), if_neg (by omega), lB_u8 l 0 (240 + v / 262144) (by omega), lB_u8 l 1 (128 + v / 4096 % 64) (by rw [g3]; omega), lB_u8 l 2 (128 + v / 64 % 64) (by rw [f3]; omega), lB_u8 l 3 (128 + v % 64) (by rw [e3]; omega)]
    exact ⟨by rw [h1]; exact take4 l hl, ⟨ok.2.1, ok.2.2⟩, hl⟩
  · cases h; exact absurd rfl hn
theorem qAt_cases (v : Nat) : (qAt v 7 0 = none ∧ v ≠ 34 ∧ v ≠ 92 ∧ v ≠ 8 ∧ v ≠ 12 ∧ v ≠ 10 ∧ v ≠ 13 ∧ v ≠ 9) ∨ v = 34 ∨ v = 92 ∨ v = 8 ∨ v = 12 ∨ v = 10 ∨ v = 13 ∨ v = 9 := by
  by_cases h : v = 34 ∨ v = 92 ∨ v = 8 ∨ v = 12 ∨ v = 10 ∨ v = 13 ∨ v = 9
  · exact .inr h
  · refine .inl ⟨?_, by omega⟩
    simp only [qAt, qRunes, List.getD_cons_zero, List.getD_cons_succ]
    repeat rw [if_neg (by omega)]
theorem enc_small (v : Nat) (h : v < 128) : enc v = [u8 v] := by unfold enc; rw [if_pos h]
set_option linter.unusedVariables false
def QD (i1 : List UInt8) (i2 : List UInt8) : Prop := ∀ Q : List UInt8 → List UInt8 → Prop, (Q [] []) → (∀ (v : Nat) (q m : List UInt8) (hv : vR v) (h : Q q m), Q (quo v ++ q) (enc v ++ m)) → Q i1 i2
theorem QD.nil  : QD [] [] := fun Q q0 q1 => q0
theorem QD.cons (v : Nat) (q m : List UInt8) (hv : vR v) (h : QD q m) : QD (quo v ++ q) (enc v ++ m) := fun Q q0 q1 => q1 v q m hv (h Q q0 q1)
end Go.Proofs.YtddmmmfpdmejbaaGreatDoor
