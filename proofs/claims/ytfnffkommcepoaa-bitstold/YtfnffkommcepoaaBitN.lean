
import Derived.Test.YtfnffkommcepoaaBit6
namespace Go.Proofs.Ytfnffkommcepoaa
open Go.RowKit

/-! Bits turned within one sector of a bitmap -/
theorem turn_torn (b : List Bool) (k fr n : Nat) (P : Nat → Bool) (hP : ∀ i, P i = true → fr + i < 512) (ha : anyP P 32 = true) : tornB (turnS (putS b k) P fr 32) k n = true := by
  unfold tornB isSl putS
  rw [turn_sealed (rawS b k) P fr hP, ha]
  simp
theorem badU_one (l : List Sc) (n k : Nat) : ∀ m, m ≤ l.length → (∀ j s, l[j]? = some s → tornB s j n = decide (j = k)) → badU l n m = if k < m then [k] else []
  | 0, _, _ => by simp [badU]
  | m + 1, hm, h => by
    obtain ⟨s, hs⟩ : ∃ s, l[m]? = some s := ⟨l[m], List.getElem?_eq_getElem (by omega)⟩
    rw [badU, badU_one l n k m (by omega) h, hs]
    simp only [h m s hs]
    by_cases hk : m = k
    · subst hk
      simp
    · by_cases h1 : k < m
      · rw [if_pos h1, if_pos (by omega)]; simp [hk]
      · rw [if_neg h1, if_neg (by omega)]; simp [hk]
theorem set_get (l : List Sc) (k j : Nat) (s : Sc) (h : k < l.length) : (l.set k s)[j]? = if j = k then some s else l[j]? := by
  rw [List.getElem?_set]
  by_cases hj : k = j
  · subst hj; simp [h]
  · rw [if_neg hj, if_neg (fun e => hj e.symm)]
theorem told_bad (b : List Bool) (k : Nat) (s : Sc) (hk : k < manyN b.length) (ht : tornB s k b.length = true) : getBad ((putL b).set k s) b.length = [k] := by
  have hl := putL_len b
  unfold getBad
  rw [if_pos ⟨by omega, by rw [List.length_set, hl]⟩, badU_one _ _ k _ (Nat.le_refl _), if_pos (by rw [List.length_set, hl]; exact hk)]
  intro j t hj
  rw [set_get _ _ _ _ (by omega)] at hj
  by_cases e : j = k
  · subst e
    simp at hj
    subst hj
    rw [ht]; simp
  · rw [if_neg e] at hj
    have hj2 : j < manyN b.length := by rw [← hl]; exact (List.getElem?_eq_some_iff.1 hj).1
    rw [putL_get b j hj2] at hj
    rw [← Option.some.inj hj, torn_put]
    simp [e]
theorem told_bits (b : List Bool) (k : Nat) (s : Sc) (hk : k < manyN b.length) (ht : tornB s k b.length = true) (i : Nat) (hi : i < b.length) : bitOf ((putL b).set k s) b.length i = if i / 480 = k then false else bAt b i := by
  have hl := putL_len b
  unfold bitOf
  rw [set_get _ _ _ _ (by omega)]
  by_cases e : i / 480 = k
  · rw [if_pos e, if_pos e]
    simp only
    rw [e, ht]; rfl
  · rw [if_neg e, if_neg e, putL_get b _ (manyN_mul (by omega) i hi)]
    simp only
    rw [torn_put]
    unfold putS
    rw [fbit_seal _ _ (by omega), fbit_raw b _ _ (by omega), show i / 480 * 480 + i % 480 = i by omega]
    simp
/-! A byte of a sector of a slice of the call's own -/
theorem flK_byte : ∀ (ds : List Sc) (k j : Nat) (d : Sc) (b : UInt8), ds[k]? = some d → j < 64 → (flK secE ds).set (k * 64 + j) (.int .u8 (b.toNat : Int)) = flK secE (ds.set k (upd d j b))
  | [], k, j, d, b, h, _ => by simp at h
  | x :: r, 0, j, d, b, h, hj => by
    simp at h
    subst h
    have hl : (secE.enc x).length = 64 := by rw [secE_ok.len x]; rfl
    rw [flK, List.set_cons_zero, flK, Nat.zero_mul, Nat.zero_add, List.set_append_left _ _ (by omega)]
    have e : (secE.enc x).set j (.int .u8 (b.toNat : Int)) = secE.enc (upd x j b) := by
      rw [secE_enc, secE_enc, ← secA_set x j b hj, Array.toList_setIfInBounds]
    rw [e]
  | x :: r, k + 1, j, d, b, h, hj => by
    have hl : (secE.enc x).length = 64 := by rw [secE_ok.len x]; rfl
    have h' : r[k]? = some d := by simpa using h
    rw [flK, List.set_cons_succ, flK, List.set_append_right _ _ (by omega), hl, show (k + 1) * 64 + j - 64 = k * 64 + j by omega, flK_byte r k j d b h' hj]
theorem OwnK.byte {w : World} {B g n c : Nat} {ds : List Sc} (h : OwnK secE w B (.slice (some ⟨g, 0, none⟩) n c) ds) (k j : Nat) (d : Sc) (b : UInt8) (hd : ds[k]? = some d) (hj : j < 64) :
    OwnK secE (w.setCell ⟨g, k * 64 + j, none⟩ (.int .u8 (b.toNat : Int))) B (.slice (some ⟨g, 0, none⟩) n c) (ds.set k (upd d j b)) := by
  obtain ⟨cur, h1, h2, h3, h4, h5, h6, h7⟩ := h.heap
  have hk : k < ds.length := (List.getElem?_eq_some_iff.1 hd).1
  have hlen : (flK secE ds).length = ds.length * 64 := by rw [flK_len secE_ok]; rfl
  refine ⟨by rw [flK_len secE_ok], .inr ⟨g, c, cur.setIfInBounds (k * 64 + j) (.int .u8 (b.toNat : Int)), by rw [List.length_set, h1], h2, heap_setCell w g _ _ cur _ _ h3, ?_, h5, ?_, ?_⟩⟩
  · rw [List.length_set]; omega
  · rw [Array.size_setIfInBounds]; exact h6
  · rw [List.length_set, Array.toList_setIfInBounds, List.take_set, ← h1, h7]
    exact flK_byte ds k j d b hd hj
theorem OwnK.cellOf {w : World} {B g n c : Nat} {ds : List Sc} (h : OwnK secE w B (.slice (some ⟨g, 0, none⟩) n c) ds) (k j : Nat) : w.frozen? ⟨g, k * 64 + j, none⟩ = false := by
  obtain ⟨cur, h1, h2, h3, h4, h5, h6, h7⟩ := h.heap
  simp [World.frozen?, h3]
theorem and_bit7 (pat i : Nat) (h : pat < 4294967296) : bits .and .u32 ((pat : Int) / (2 : Int) ^ i) 1 = bif pat.testBit i then 1 else 0 := by
  have e1 : (pat : Int) / (2 : Int) ^ i = ((pat / 2 ^ i : Nat) : Int) := by simp
  have h2 : pat / 2 ^ i < 4294967296 := Nat.lt_of_le_of_lt (Nat.div_le_self _ _) h
  have e := u32_and_nat (pat / 2 ^ i) 1 h2 (by omega)
  rw [show ((1 : Nat) : Int) = 1 from rfl] at e
  rw [e1, e, Nat.and_one_is_mod, Nat.testBit_eq_decide_div_mod_eq]
  rcases Nat.mod_two_eq_zero_or_one (pat / 2 ^ i) with h3 | h3 <;> simp [h3]
theorem oneAt_nat (q : Nat) : (oneAt q).toNat = 2 ^ (q % 8) := by
  unfold oneAt
  have : ∀ r : Fin 8, (UInt8.ofNat (2 ^ r.val)).toNat = 2 ^ r.val := by decide
  exact this ⟨q % 8, by omega⟩
theorem xor87 (a b : UInt8) : bits .xor .u8 (a.toNat : Int) (b.toNat : Int) = ((a ^^^ b).toNat : Int) := by
  rw [u8_xor_nat _ _ a.toNat_lt b.toNat_lt, UInt8.toNat_xor]
theorem putL_same (b : List Bool) (k : Nat) (h : k < manyN b.length) : (putL b).set k (putS b k) = putL b := by
  apply List.ext_getElem?
  intro j
  rw [set_get _ _ _ _ (by rw [putL_len]; exact h)]
  by_cases e : j = k
  · rw [if_pos e, e, putL_get b k h]
  · rw [if_neg e]
theorem anyP_stay (P : Nat → Bool) : ∀ j i, i ≤ j → (∀ t, i ≤ t → t < j → P t = false) → anyP P j = anyP P i
  | 0, i, h, _ => by
    obtain rfl : i = 0 := by omega
    rfl
  | j + 1, i, h, hf => by
    by_cases e : i = j + 1
    · rw [e]
    · rw [anyP, hf j (by omega) (by omega), cond_false]
      exact anyP_stay P j i (by omega) fun t h1 h2 => hf t h1 (by omega)
theorem w64_nat (n : Nat) (h : n < 9223372036854775808) : wrap64 (n : Int) = (n : Int) := by unfold wrap64; omega
theorem k_fact (U M k : Nat) (hM : k < 4) (h : U % M = k) : wrap64 ((U : Int) % (M : Int)) = (k : Int) := by
  have e : (U : Int) % (M : Int) = (k : Int) := by rw [← h]; simp
  rw [e]; exact w64_nat k (by omega)
theorem fr_fact (U M fr : Nat) (hU : U < 18446744073709551616) (h : U / M % 480 = fr) : wrap64 ((IntKind.u64.wrap ((U : Int) / (M : Int))).tmod 480) = (fr : Int) := by
  have e : (U : Int) / (M : Int) = ((U / M : Nat) : Int) := by simp
  have hle : U / M ≤ U := Nat.div_le_self _ _
  rw [e]
  generalize U / M = D at h hle
  have e2 : IntKind.u64.wrap (D : Int) = (D : Int) := by rw [IntKind.wrap_u64]; omega
  rw [e2, Int.tmod_eq_emod_of_nonneg (by omega)]
  have e3 : (D : Int) % 480 = (fr : Int) := by omega
  rw [e3]; exact w64_nat fr (by omega)
theorem badU_len (l : List Sc) (n : Nat) : ∀ m, (badU l n m).length ≤ m
  | 0 => by simp [badU]
  | m + 1 => by
    rw [badU, List.length_append]
    have h1 := badU_len l n m
    cases hq : l[m]? with
    | none => simp; omega
    | some s =>
      cases ht : tornB s m n with
      | false => simp [ht]; omega
      | true => simp [ht]; omega
theorem bad_len (l : List Sc) (n : Nat) : (getBad l n).length ≤ l.length := by
  unfold getBad
  split
  · exact badU_len l n _
  · simp
end Go.Proofs.Ytfnffkommcepoaa
