import Derived.Test.YtddmmmfpdmejbaaGreatDoorQNum
namespace Go.Proofs.YtddmmmfpdmejbaaGreatDoor
open Go.RowKit

/-! What is encoded is decoded, and back -/
theorem u8_at (n : Nat) (h : n < 256) : (u8 n).toNat = n := by unfold u8; rw [UInt8.toNat_ofNat']; omega
def vR (v : Nat) : Prop := v ≤ 1114111 ∧ ¬ (55296 ≤ v ∧ v ≤ 57343)
theorem rn_b (l : List UInt8) (b : Nat) (h0 : l.length ≠ 0) (hb : (lB l 0).toNat = b) : rn l = (if b < 128 then (b, 1) else if 192 ≤ b ∧ b < 224 then rnN l 2 (b - 192) else if 224 ≤ b ∧ b < 240 then rnN l 3 (b - 224) else if 240 ≤ b ∧ b < 248 then rnN l 4 (b - 240) else (0, 0)) := by
  subst hb; unfold rn; rw [if_neg h0]
theorem cv_step (l : List UInt8) (v0 k v b : Nat) (h : cvR l v0 k = some v) (hb : (lB l (k + 1)).toNat = 128 + b) (h64 : b < 64) : cvR l v0 (k + 1) = some (64 * v + b) := by
  rw [cvR, h]
  simp only
  have hc : isC (lB l (k + 1)) = true := by unfold isC; rw [hb, decide_eq_true]; omega
  rw [hc, if_pos rfl, hb, show 64 * v + (128 + b) - 128 = 64 * v + b by omega]
theorem rnN_some (l : List UInt8) (n v0 v : Nat) (hl : ¬ l.length < n) (hc : cvR l v0 (n - 1) = some v) (ok : okR n v = true) : rnN l n v0 = (v, n) := by
  unfold rnN
  rw [if_neg hl, hc]
  simp only [ok, if_true]
theorem rn_enc (v : Nat) (hv : vR v) (r : List UInt8) : rn (enc v ++ r) = (v, (enc v).length) := by
  obtain ⟨h1, h2⟩ := hv
  unfold enc
  by_cases a1 : v < 128
  · rw [if_pos a1]
    rw [rn_b ([u8 v] ++ r) v (by simp) (show (u8 v).toNat = v from u8_at v (by omega)), if_pos a1]; rfl
  by_cases a2 : v < 2048
  · rw [if_neg a1, if_pos a2]
    rw [rn_b ([u8 (192 + v / 64), u8 (128 + v % 64)] ++ r) (192 + v / 64) (by simp) (show (u8 (192 + v / 64)).toNat = 192 + v / 64 from u8_at _ (by omega)), if_neg (by omega), if_pos (by omega)]
    have c1 := cv_step ([u8 (192 + v / 64), u8 (128 + v % 64)] ++ r) (192 + v / 64 - 192) 0 _ (v % 64) rfl (show (u8 (128 + v % 64)).toNat = _ from u8_at _ (by omega)) (by omega)
    rw [show 64 * (192 + v / 64 - 192) + v % 64 = v by omega] at c1
    exact rnN_some _ 2 _ v (by simp) c1 (by unfold okR leastR; rw [decide_eq_true]; simp; omega)
  by_cases a3 : v < 65536
  · rw [if_neg a1, if_neg a2, if_pos a3]
    rw [rn_b ([u8 (224 + v / 4096), u8 (128 + v / 64 % 64), u8 (128 + v % 64)] ++ r) (224 + v / 4096) (by simp) (show (u8 (224 + v / 4096)).toNat = 224 + v / 4096 from u8_at _ (by omega)), if_neg (by omega), if_neg (by omega), if_pos (by omega)]
    have c1 := cv_step ([u8 (224 + v / 4096), u8 (128 + v / 64 % 64), u8 (128 + v % 64)] ++ r) (224 + v / 4096 - 224) 0 _ (v / 64 % 64) rfl (show (u8 (128 + v / 64 % 64)).toNat = _ from u8_at _ (by omega)) (by omega)
    have c2 := cv_step _ _ 1 _ (v % 64) c1 (show (u8 (128 + v % 64)).toNat = _ from u8_at _ (by omega)) (by omega)
    rw [show 64 * (64 * (224 + v / 4096 - 224) + v / 64 % 64) + v % 64 = v by omega] at c2
    exact rnN_some _ 3 _ v (by simp) c2 (by unfold okR leastR; rw [decide_eq_true]; simp; omega)
  · rw [if_neg a1, if_neg a2, if_neg a3]
    rw [rn_b ([u8 (240 + v / 262144), u8 (128 + v / 4096 % 64), u8 (128 + v / 64 % 64), u8 (128 + v % 64)] ++ r) (240 + v / 262144) (by simp) (show (u8 (240 + v / 262144)).toNat = 240 + v / 262144 from u8_at _ (by omega)), if_neg (by omega), if_neg (by omega), if_neg (by omega), if_pos (by omega)]
    have c1 := cv_step ([u8 (240 + v / 262144), u8 (128 + v / 4096 % 64), u8 (128 + v / 64 % 64), u8 (128 + v % 64)] ++ r) (240 + v / 262144 - 240) 0 _ (v / 4096 % 64) rfl (show (u8 (128 + v / 4096 % 64)).toNat = _ from u8_at _ (by omega)) (by omega)
    have c2 := cv_step _ _ 1 _ (v / 64 % 64) c1 (show (u8 (128 + v / 64 % 64)).toNat = _ from u8_at _ (by omega)) (by omega)
    have c3 := cv_step _ _ 2 _ (v % 64) c2 (show (u8 (128 + v % 64)).toNat = _ from u8_at _ (by omega)) (by omega)
    rw [show 64 * (64 * (64 * (240 + v / 262144 - 240) + v / 4096 % 64) + v / 64 % 64) + v % 64 = v by omega] at c3
    exact rnN_some _ 4 _ v (by simp) c3 (by unfold okR leastR; rw [decide_eq_true]; simp; omega)
theorem cv_inv (l : List UInt8) (v0 k v : Nat) (h : cvR l v0 (k + 1) = some v) : ∃ u b, cvR l v0 k = some u ∧ b < 64 ∧ (lB l (k + 1)).toNat = 128 + b ∧ v = 64 * u + b := by
  rw [cvR] at h
  cases hu : cvR l v0 k with
  | none => rw [hu] at h; cases h
  | some u =>
    rw [hu] at h
    simp only at h
    split at h
    · rename_i hc
      unfold isC at hc
      rw [decide_eq_true_eq] at hc
      have hv := Option.some.inj h
      exact ⟨u, (lB l (k + 1)).toNat - 128, rfl, by omega, by omega, by omega⟩
    · cases h
theorem rnN_inv (l : List UInt8) (n v0 v m : Nat) (h : rnN l n v0 = (v, m)) (hm : m ≠ 0) : m = n ∧ n ≤ l.length ∧ cvR l v0 (n - 1) = some v ∧ okR n v = true := by
  unfold rnN at h
  split at h
  · cases h; exact absurd rfl hm
  · rename_i hl
    split at h
    · cases h; exact absurd rfl hm
    · rename_i u hu
      split at h
      · rename_i ok
        cases h
        exact ⟨rfl, by omega, hu, ok⟩
      · cases h; exact absurd rfl hm
theorem u8_back (b : UInt8) : u8 b.toNat = b := by unfold u8; simp
theorem lB_u8 (l : List UInt8) (k n : Nat) (h : (lB l k).toNat = n) : lB l k = u8 n := by rw [← h, u8_back]
theorem okR_iff (n v : Nat) : okR n v = true ↔ leastR n ≤ v ∧ v ≤ 1114111 ∧ ¬ (55296 ≤ v ∧ v ≤ 57343) := by unfold okR; rw [decide_eq_true_eq]
theorem take1 (l : List UInt8) (h : 1 ≤ l.length) : l.take 1 = [lB l 0] := by
  match l, h with
  | a :: r, _ => rfl
theorem take2 (l : List UInt8) (h : 2 ≤ l.length) : l.take 2 = [lB l 0, lB l 1] := by
  match l, h with
  | a :: b :: r, _ => rfl
theorem take3 (l : List UInt8) (h : 3 ≤ l.length) : l.take 3 = [lB l 0, lB l 1, lB l 2] := by
  match l, h with
  | a :: b :: c :: r, _ => rfl
theorem take4 (l : List UInt8) (h : 4 ≤ l.length) : l.take 4 = [lB l 0, lB l 1, lB l 2, lB l 3] := by
  match l, h with
  | a :: b :: c :: d :: r, _ => rfl
/-- A rune's bytes are the ones that it is encoded by. -/
theorem enc_rn (l : List UInt8) (v n : Nat) (h : rn l = (v, n)) (hn : n ≠ 0) : l.take n = enc v ∧ vR v ∧ n ≤ l.length := by
  by_cases h0 : l.length = 0
  · unfold rn at h; rw [if_pos h0] at h; cases h; exact absurd rfl hn
  rw [rn_b l _ h0 rfl] at h
  split at h
  · rename_i hb
    cases h
    have h1 : enc (lB l 0).toNat = [lB l 0] := by unfold enc; rw [if_pos hb, u8_back]
    exact ⟨by rw [h1]; exact take1 l (by omega), ⟨by omega, by omega⟩, by omega⟩
  split at h
  · rename_i hb1 hb
    obtain ⟨rfl, hl, hc, ok⟩ := rnN_inv _ _ _ _ _ h hn
    obtain ⟨u, b, e1, e2, e3, e4⟩ := cv_inv l _ 0 v hc
    have e5 := Option.some.inj e1
    rw [okR_iff] at ok
    have hle : leastR 2 = 128 := rfl
    have h1 : enc v = [lB l 0, lB l 1] := by
      unfold enc
      rw [if_neg (by omega), if_pos (by omega), lB_u8 l 0 (192 + v / 64) (by omega), lB_u8 l 1 (128 + v % 64) (by rw [e3]; omega)]
    exact ⟨by rw [h1]; exact take2 l hl, ⟨ok.2.1, ok.2.2⟩, hl⟩
  split at h
  · rename_i hb1 hb2 hb
    obtain ⟨rfl, hl, hc, ok⟩ := rnN_inv _ _ _ _ _ h hn
    obtain ⟨u, b, e1, e2, e3, e4⟩ := cv_inv l _ 1 v hc
    obtain ⟨u', b', f1, f2, f3, f4⟩ := cv_inv l _ 0 u e1
    have e5 := Option.some.inj f1
    rw [okR_iff] at ok
    have hle : leastR 3 = 2048 := rfl
    have h1 : enc v = [lB l 0, lB l 1, lB l 2] := by
      unfold enc
      rw [if_neg (by omega), if_neg (by omega), if_pos (by omega), lB_u8 l 0 (224 + v / 4096) (by omega), lB_u8 l 1 (128 + v / 64 % 64) (by rw [f3]; omega), lB_u8 l 2 (128 + v % 64) (by rw [e3]; omega)]
    exact ⟨by rw [h1]; exact take3 l hl, ⟨ok.2.1, ok.2.2⟩, hl⟩
  split at h
  · rename_i hb1 hb2 hb3 hb
    obtain ⟨rfl, hl, hc, ok⟩ := rnN_inv _ _ _ _ _ h hn
    obtain ⟨u, b, e1, e2, e3, e4⟩ := cv_inv l _ 2 v hc
    obtain ⟨u', b', f1, f2, f3, f4⟩ := cv_inv l _ 1 u e1
    obtain ⟨u'', b'', g1, g2, g3, g4⟩ := cv_inv l _ 0 u' f1
    have e5 := Option.some.inj g1
    rw [okR_iff] at ok
    have hle : leastR 4 = 65536 := rfl
    have h1 : enc v = [lB l 0, lB l 1, lB l 2, lB l 3] := by
      unfold enc
      rw [if_neg (by omega), if_neg (by omega), if_neg (by omega), lB_u8 l 0 (240 + v / 262144) (by omega), lB_u8 l 1 (128 + v / 4096 % 64) (by rw [g3]; omega), lB_u8 l 2 (128 + v / 64 % 64) (by rw [f3]; omega), lB_u8 l 3 (128 + v % 64) (by rw [e3]; omega)]
    exact ⟨by rw [h1]; exact take4 l hl, ⟨ok.2.1, ok.2.2⟩, hl⟩
  · cases h; exact absurd rfl hn
theorem qAt_cases (v : Nat) : (qAt v 7 0 = none ∧ v ≠ 34 ∧ v ≠ 92 ∧ v ≠ 8 ∧ v ≠ 12 ∧ v ≠ 10 ∧ v ≠ 13 ∧ v ≠ 9) ∨ v = 34 ∨ v = 92 ∨ v = 8 ∨ v = 12 ∨ v = 10 ∨ v = 13 ∨ v = 9 := by
  by_cases h : v = 34 ∨ v = 92 ∨ v = 8 ∨ v = 12 ∨ v = 10 ∨ v = 13 ∨ v = 9
  · exact .inr h
  · refine .inl ⟨?_, by omega⟩
    simp only [qAt, qRunes, List.getD_cons_zero, List.getD_cons_succ]
    repeat rw [if_neg (by omega)]
theorem hex_dg (n : Nat) (h : n < 16) : hexV (dgC n) = (n : Int) := by
  rcases (by omega : n = 0 ∨ n = 1 ∨ n = 2 ∨ n = 3 ∨ n = 4 ∨ n = 5 ∨ n = 6 ∨ n = 7 ∨ n = 8 ∨ n = 9 ∨ n = 10 ∨ n = 11 ∨ n = 12 ∨ n = 13 ∨ n = 14 ∨ n = 15) with rfl | rfl | rfl | rfl | rfl | rfl | rfl | rfl | rfl | rfl | rfl | rfl | rfl | rfl | rfl | rfl <;> decide
theorem esc_two (c : UInt8) (r : List UInt8) (i : Nat) (h : escAt c 8 0 = some i) : piece ([92, c] ++ r) = ([lB escMeans i], 2) := by
  unfold piece
  rw [if_pos (show lB ([92, c] ++ r) 0 = 92 from rfl)]
  unfold escS
  rw [if_pos (by simp), show lB ([92, c] ++ r) 1 = c from rfl, h]
theorem enc_small (v : Nat) (h : v < 128) : enc v = [u8 v] := by unfold enc; rw [if_pos h]
theorem hx_step (l : List UInt8) (k v d : Nat) (h : hx l k = some v) (hd : hexV (lB l (2 + k)) = (d : Int)) : hx l (k + 1) = some (16 * v + d) := by
  rw [hx, h]
  simp only
  rw [hd, if_neg (by omega), Int.toNat_natCast]
theorem esc_six (a b : Nat) (ha : a < 2) (hb : b < 16) (r : List UInt8) : piece ([92, 117, 48, 48, dgC a, dgC b] ++ r) = (enc (16 * a + b), 6) := by
  unfold piece
  rw [if_pos (show lB ([92, 117, 48, 48, dgC a, dgC b] ++ r) 0 = 92 from rfl)]
  unfold escS
  rw [if_pos (by simp), show lB ([92, 117, 48, 48, dgC a, dgC b] ++ r) 1 = 117 from rfl, show escAt 117 8 0 = none from by decide]
  simp only
  unfold escU
  rw [if_neg (by
    rintro (h | h)
    · simp at h; omega
    · exact h rfl)]
  have s1 := hx_step ([92, 117, 48, 48, dgC a, dgC b] ++ r) 0 0 0 rfl (show hexV 48 = 0 by decide)
  have s2 := hx_step ([92, 117, 48, 48, dgC a, dgC b] ++ r) 1 _ 0 s1 (show hexV 48 = 0 by decide)
  have s3 := hx_step ([92, 117, 48, 48, dgC a, dgC b] ++ r) 2 _ a s2 (hex_dg a (by omega))
  have s4 := hx_step ([92, 117, 48, 48, dgC a, dgC b] ++ r) 3 _ b s3 (hex_dg b hb)
  rw [s4]
  simp only
  rw [if_neg (by omega), show 16 * (16 * (16 * (16 * 0 + 0) + 0) + a) + b = 16 * a + b by omega]
theorem enc_first (v : Nat) (hv : v ≤ 1114111) (h : 128 ≤ v) (r : List UInt8) : 192 ≤ (lB (enc v ++ r) 0).toNat := by
  unfold enc
  rw [if_neg (by omega)]
  split
  · rw [show lB ([u8 (192 + v / 64), u8 (128 + v % 64)] ++ r) 0 = u8 (192 + v / 64) from rfl, u8_at _ (by omega)]; omega
  · split
    · rw [show lB ([u8 (224 + v / 4096), u8 (128 + v / 64 % 64), u8 (128 + v % 64)] ++ r) 0 = u8 (224 + v / 4096) from rfl, u8_at _ (by omega)]; omega
    · rw [show lB ([u8 (240 + v / 262144), u8 (128 + v / 4096 % 64), u8 (128 + v / 64 % 64), u8 (128 + v % 64)] ++ r) 0 = u8 (240 + v / 262144) from rfl, u8_at _ (by omega)]; omega
/-- A quoted rune is a piece of a string, and means that rune. -/
theorem piece_quo (v : Nat) (hv : vR v) (r : List UInt8) : piece (quo v ++ r) = (enc v, (quo v).length) ∧ lB (quo v ++ r) 0 ≠ 34 := by
  rcases qAt_cases v with ⟨hq, n1, n2, n3, n4, n5, n6, n7⟩ | rfl | rfl | rfl | rfl | rfl | rfl | rfl
  · by_cases h32 : v < 32
    · have e : quo v = [92, 117, 48, 48, dgC (v / 16), dgC (v % 16)] := by unfold quo; rw [hq]; simp only; rw [if_pos h32]
      rw [e]
      refine ⟨?_, show (92 : UInt8) ≠ 34 by decide⟩
      rw [esc_six (v / 16) (v % 16) (by omega) (by omega) r, show 16 * (v / 16) + v % 16 = v by omega]; rfl
    · have e : quo v = enc v := by unfold quo; rw [hq]; simp only; rw [if_neg h32]
      rw [e]
      have hfb : lB (enc v ++ r) 0 ≠ 92 ∧ lB (enc v ++ r) 0 ≠ 34 := by
        by_cases hs : v < 128
        · rw [enc_small v hs, show lB ([u8 v] ++ r) 0 = u8 v from rfl]
          have h9 := u8_at v (by omega)
          exact ⟨fun h => by rw [h] at h9; exact n2 h9.symm, fun h => by rw [h] at h9; exact n1 h9.symm⟩
        · have h9 := enc_first v hv.1 (by omega) r
          exact ⟨fun h => by rw [h] at h9; exact absurd h9 (by decide), fun h => by rw [h] at h9; exact absurd h9 (by decide)⟩
      refine ⟨?_, hfb.2⟩
      unfold piece
      rw [if_neg hfb.1, rn_enc v hv r]
      simp only
      rw [if_neg h32, List.take_left]
  all_goals
    refine ⟨?_, show (92 : UInt8) ≠ 34 by decide⟩
    rw [enc_small _ (by omega)]
  · exact esc_two 34 r 0 (by decide)
  · exact esc_two 92 r 1 (by decide)
  · exact esc_two 98 r 3 (by decide)
  · exact esc_two 102 r 4 (by decide)
  · exact esc_two 110 r 5 (by decide)
  · exact esc_two 114 r 6 (by decide)
  · exact esc_two 116 r 7 (by decide)
set_option linter.unusedVariables false
def QD (i1 : List UInt8) (i2 : List UInt8) : Prop := ∀ Q : List UInt8 → List UInt8 → Prop, (Q [] []) → (∀ (v : Nat) (q m : List UInt8) (hv : vR v) (h : Q q m), Q (quo v ++ q) (enc v ++ m)) → Q i1 i2
theorem QD.nil  : QD [] [] := fun Q q0 q1 => q0
theorem QD.cons (v : Nat) (q m : List UInt8) (hv : vR v) (h : QD q m) : QD (quo v ++ q) (enc v ++ m) := fun Q q0 q1 => q1 v q m hv (h Q q0 q1)
theorem QD.rc {M : ∀ (i1 : List UInt8) (i2 : List UInt8), QD i1 i2 → Prop} (nil : M [] [] (QD.nil)) (cons : ∀ (v : Nat) (q m : List UInt8) (hv : vR v) (h : QD q m), M q m h → M (quo v ++ q) (enc v ++ m) (QD.cons v q m hv h)) {i1 : List UInt8} {i2 : List UInt8} (h : QD i1 i2) : M i1 i2 h :=
  (h (fun i1 i2 => ∃ h9 : QD i1 i2, M i1 i2 h9) (⟨QD.nil, nil⟩) (fun v q m hv h => ⟨QD.cons v q m hv h.1, cons v q m hv h.1 h.2⟩)).2
theorem quo_pos (v : Nat) : 0 < (quo v).length := by
  unfold quo
  split
  · simp
  · split
    · simp
    · unfold enc
      (repeat' split) <;> simp
theorem qd_of (l : List UInt8) : ∀ f k out R, quF l f k out = some R → k ≤ l.length → ∃ q, QD q (l.drop k) ∧ R = out ++ q ++ [34]
  | 0, _, _, _, h, _ => by cases h
  | f + 1, k, out, R, h, hk => by
    rw [quF] at h
    cases hrn : rn (l.drop k) with
    | mk v n =>
    rw [hrn] at h
    simp only at h
    split at h
    · rename_i hlt
      split at h
      · cases h
      · rename_i hn
        obtain ⟨e1, e2, e3⟩ := enc_rn (l.drop k) v n hrn hn
        rw [List.length_drop] at e3
        obtain ⟨q, hq, hR⟩ := qd_of l f _ _ R h (by omega)
        refine ⟨quo v ++ q, ?_, by rw [hR]; simp⟩
        have e4 : l.drop k = enc v ++ l.drop (k + n) := by
          rw [← e1, ← List.drop_drop, List.take_append_drop]
        rw [e4]
        exact QD.cons _ _ _ e2 hq
    · rename_i hlt
      refine ⟨[], ?_, by rw [← Option.some.inj h]; simp⟩
      rw [List.drop_of_length_le (by omega)]; exact QD.nil
theorem lB_at (P S : List UInt8) : lB (P ++ S) P.length = lB S 0 := by unfold lB; rw [List.getElem?_append_right (Nat.le_refl _), Nat.sub_self]
theorem txt_qd {q m : List UInt8} (h : QD q m) : ∀ (P acc T : List UInt8) (g : Nat), q.length < g → txt (P ++ (q ++ 34 :: T)) g P.length acc = (acc ++ m, P.length + q.length + 1) := by
  induction h using QD.rc with
  | nil =>
    intro P acc T g hg
    obtain ⟨g', rfl⟩ : ∃ g', g = g' + 1 := ⟨g - 1, by omega⟩
    rw [txt, if_pos (by simp), lB_at, if_pos (show lB ([] ++ 34 :: T) 0 = 34 from rfl)]
    simp
  | cons v q m hv h ih =>
    intro P acc T g hg
    have hp := quo_pos v
    rw [List.length_append] at hg
    obtain ⟨g', rfl⟩ : ∃ g', g = g' + 1 := ⟨g - 1, by omega⟩
    have e0 : quo v ++ q ++ 34 :: T = quo v ++ (q ++ 34 :: T) := by simp
    obtain ⟨p1, p2⟩ := piece_quo v hv (q ++ 34 :: T)
    rw [e0, txt, if_pos (by simp; omega), lB_at, if_neg p2, List.drop_left, p1]
    simp only
    rw [if_neg (by omega)]
    have e1 : P ++ (quo v ++ (q ++ 34 :: T)) = (P ++ quo v) ++ (q ++ 34 :: T) := by simp
    have := ih (P ++ quo v) (acc ++ enc v) T g' (by omega)
    rw [List.length_append] at this
    rw [e1, this]
    simp only [List.length_append, List.append_assoc, Prod.mk.injEq, true_and]
    omega
/-- What is quoted is one string with that text. -/
theorem back_form (l R : List UInt8) (h : quA l = some R) : ∃ q, R = [34] ++ (q ++ [34]) ∧ QD q l := by
  obtain ⟨q, hq, hR⟩ := qd_of l _ _ _ R h (Nat.zero_le _)
  exact ⟨q, by rw [hR]; simp, by simpa using hq⟩
theorem one_back (l R : List UInt8) (h : quA l = some R) : oneTk R = (⟨11, 0, 0, l⟩, R.length) := by
  obtain ⟨q, rfl, hq⟩ := back_form l R h
  unfold oneTk
  rw [show lB ([34] ++ (q ++ [34])) 0 = 34 from rfl, show sgnAt 34 6 0 = none from by decide]
  simp only [if_true]
  have hx := txt_qd hq [34] [] [] ([34] ++ (q ++ [34])).length (by simp; omega)
  simp only [List.length_singleton] at hx
  rw [hx]
  simp only [List.nil_append, Prod.mk.injEq, true_and, List.length_append, List.length_singleton]
  omega
end Go.Proofs.YtddmmmfpdmejbaaGreatDoor
