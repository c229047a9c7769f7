import Derived.Test.YtklbdhpnbjhgkaaGreatDoorQCrcM
import Derived.Laws.BitsAllLaws
namespace Go.Proofs.YtklbdhpnbjhgkaaGreatDoor

/-! From the walk's integers to the sum's mathematics. -/
theorem u32_of (n : BitVec 32) : (n.toNat : Int) < 4294967296 := by have := n.isLt; omega
theorem and_one (n : BitVec 32) : bits .and .u32 (n.toNat : Int) 1 = bif n.getLsbD 0 then 1 else 0 := by
  have h := n.isLt
  have e := u32_and_nat n.toNat 1 (by omega) (by omega)
  rw [show ((1 : Nat) : Int) = 1 from rfl] at e
  rw [e, Nat.and_one_is_mod]
  have : n.getLsbD 0 = n.toNat.testBit 0 := rfl
  rw [this, Nat.testBit_zero]
  rcases Nat.mod_two_eq_zero_or_one n.toNat with h2 | h2 <;> simp [h2]
theorem xor_vec (m n : BitVec 32) : bits .xor .u32 (m.toNat : Int) (n.toNat : Int) = ((m ^^^ n).toNat : Int) := by
  have h1 := m.isLt
  have h2 := n.isLt
  rw [u32_xor_nat m.toNat n.toNat (by omega) (by omega), BitVec.toNat_xor]
theorem shr_one (n : BitVec 32) : (n.toNat : Int) / (2 : Int) = ((n >>> 1).toNat : Int) := by
  rw [BitVec.toNat_ushiftRight, Nat.shiftRight_eq_div_pow]; omega
theorem st_odd (n : BitVec 32) (h : n.getLsbD 0 = true) : bits .xor .u32 ((n.toNat : Int) / (2 : Int)) 3988292384 = ((st n).toNat : Int) := by
  have e : (3988292384 : Int) = (crcP.toNat : Int) := by decide
  rw [shr_one, e, xor_vec, st, h]; rfl
theorem st_even (n : BitVec 32) (h : n.getLsbD 0 = false) : (n.toNat : Int) / (2 : Int) = ((st n).toNat : Int) := by
  rw [shr_one, st, h]; simp
theorem xor_byte (n : BitVec 32) (b : UInt8) : bits .xor .u32 (n.toNat : Int) (b.toNat : Int) = ((n ^^^ BitVec.ofNat 32 b.toNat).toNat : Int) := by
  have h := b.toNat_lt
  have e : (b.toNat : Int) = ((BitVec.ofNat 32 b.toNat).toNat : Int) := by
    rw [BitVec.toNat_ofNat, Nat.mod_eq_of_lt (by omega)]
  rw [e, xor_vec]
theorem xor_ones (n : BitVec 32) : bits .xor .u32 (n.toNat : Int) 4294967295 = ((n ^^^ ones).toNat : Int) := by
  have e : (4294967295 : Int) = (ones.toNat : Int) := by decide
  rw [e, xor_vec]
theorem ones_nat : (4294967295 : Int) = (ones.toNat : Int) := by decide
/-- Two lists of one length whose bytes xored are a burst have other sums. -/
theorem sumL_burst (l m : List UInt8) (p q : Nat) (e : List Bool) (h : l.length = m.length) (hx : bitsL (List.zipWith (· ^^^ ·) l m) = List.replicate p false ++ e ++ List.replicate q false) (he : e.length ≤ 32) (hm : true ∈ e) : sumL l ≠ sumL m := by
  intro hs
  have h1 : crcL ones l = crcL ones m := by
    unfold sumL at hs
    have := congrArg (· ^^^ ones) hs
    simpa [BitVec.xor_assoc] using this
  have h2 := crcL_xor l m ones ones h
  rw [h1, BitVec.xor_self, BitVec.xor_self, crcL_feed, hx] at h2
  exact feed_burst p q e he hm h2
theorem bitsL_length (l : List UInt8) : (bitsL l).length = 8 * l.length := by
  induction l with
  | nil => rfl
  | cons b l ih => simp only [bitsL, List.flatMap_cons, List.length_append, List.length_cons] at *; rw [ih]; simp [bits8]; omega
/-- Bit k of a list of bytes. -/
def bitAt (l : List UInt8) (k : Nat) : Bool := (l[k / 8]?.getD 0).toNat.testBit (k % 8)
theorem bitsL_get (l : List UInt8) : ∀ k, k < 8 * l.length → (bitsL l)[k]? = some (bitAt l k) := by
  induction l with
  | nil => intro k hk; simp at hk
  | cons b l ih =>
    intro k hk
    have e0 : bitsL (b :: l) = bits8 b ++ bitsL l := by simp [bitsL]
    have e8 : (bits8 b).length = 8 := by simp [bits8]
    rw [e0]
    by_cases h : k < 8
    · rw [List.getElem?_append_left (by omega)]
      have h1 : k / 8 = 0 := by omega
      have h2 : k % 8 = k := by omega
      simp [bits8, bitAt, h, h1, h2]
    · rw [List.getElem?_append_right (by omega), e8, ih (k - 8) (by simp at hk; omega)]
      unfold bitAt
      have h1 : k / 8 = (k - 8) / 8 + 1 := by omega
      have h2 : k % 8 = (k - 8) % 8 := by omega
      rw [h1, h2, List.getElem?_cons_succ]
theorem bitAt_xor (l m : List UInt8) (h : l.length = m.length) (k : Nat) (hk : k < 8 * l.length) : bitAt (List.zipWith (· ^^^ ·) l m) k = (bitAt l k ^^ bitAt m k) := by
  unfold bitAt
  have h1 : k / 8 < l.length := by omega
  have h2 : k / 8 < m.length := by omega
  rw [List.getElem?_zipWith, List.getElem?_eq_getElem h1, List.getElem?_eq_getElem h2]
  simp [UInt8.toNat_xor, Nat.testBit_xor]
/-- Lists of one length that differ in some bits, all within 32 in a row: other sums. -/
theorem sumL_differ (l m : List UInt8) (bit : Nat) (h : l.length = m.length) (hout : ∀ k, k < 8 * l.length → bitAt l k ≠ bitAt m k → bit ≤ k ∧ k < bit + 32) (hin : ∃ k, k < 8 * l.length ∧ bitAt l k ≠ bitAt m k) : sumL l ≠ sumL m := by
  obtain ⟨k0, hk0, hd0⟩ := hin
  have hb0 := hout k0 hk0 hd0
  have hbl : bit ≤ 8 * l.length := by omega
  have hlen : (List.zipWith (· ^^^ ·) l m).length = l.length := by simp; omega
  let w := min 32 (8 * l.length - bit)
  refine sumL_burst l m bit (8 * l.length - bit - w) ((List.range w).map fun i => (bitAt l (bit + i) ^^ bitAt m (bit + i))) h ?_ (by simp; omega) ?_
  · apply List.ext_getElem?
    intro k
    by_cases hk : k < 8 * l.length
    · rw [bitsL_get _ k (by rw [hlen]; exact hk), bitAt_xor l m h k hk]
      by_cases h1 : k < bit
      · rw [List.append_assoc, List.getElem?_append_left (by simpa using h1)]
        have : bitAt l k = bitAt m k := by
          apply Classical.byContradiction; intro hc; have := hout k hk hc; omega
        simp [h1, this]
      · by_cases h2 : k < bit + w
        · rw [List.getElem?_append_left (by simp; omega), List.getElem?_append_right (by simp; omega)]
          simp only [List.length_replicate, List.getElem?_map]
          rw [List.getElem?_range (by omega)]
          simp only [Option.map_some]
          rw [show bit + (k - bit) = k by omega]
        · rw [List.getElem?_append_right (by simp; omega)]
          have hc : bitAt l k = bitAt m k := by
            apply Classical.byContradiction; intro hc; have := hout k hk hc; omega
          rw [List.getElem?_replicate, if_pos (by simp; omega), hc]; simp
    · rw [List.getElem?_eq_none (by rw [bitsL_length, hlen]; omega), List.getElem?_eq_none (by simp; omega)]
  · rw [List.mem_map]
    refine ⟨k0 - bit, by rw [List.mem_range]; omega, ?_⟩
    rw [show bit + (k0 - bit) = k0 by omega]
    cases h1 : bitAt l k0 <;> cases h2 : bitAt m k0 <;> simp_all
end Go.Proofs.YtklbdhpnbjhgkaaGreatDoor
