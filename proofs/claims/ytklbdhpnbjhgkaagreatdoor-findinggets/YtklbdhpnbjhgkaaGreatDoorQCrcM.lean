import Derived.WalkKit
import Derived.Laws.BitsAllLaws
namespace Go.Proofs.YtklbdhpnbjhgkaaGreatDoor

/-! The sum of 32 bits, as plain mathematics; nothing of the program. -/
def crcP : BitVec 32 := 0xEDB88320#32
/-- One bit down. -/
def st (n : BitVec 32) : BitVec 32 := (n >>> 1) ^^^ (bif n.getLsbD 0 then crcP else 0#32)
def stN : Nat → BitVec 32 → BitVec 32
  | 0, n => n
  | k + 1, n => stN k (st n)
def byt (n : BitVec 32) (b : UInt8) : BitVec 32 := stN 8 (n ^^^ BitVec.ofNat 32 b.toNat)
def crcL (n : BitVec 32) (l : List UInt8) : BitVec 32 := l.foldl byt n
def ones : BitVec 32 := BitVec.allOnes 32
def sumL (l : List UInt8) : BitVec 32 := crcL ones l ^^^ ones

theorem stN_add : ∀ (j k : Nat) (n : BitVec 32), stN (j + k) n = stN k (stN j n)
  | 0, k, n => by rw [Nat.zero_add]; rfl
  | j + 1, k, n => by rw [show j + 1 + k = (j + k) + 1 by omega, stN, stN, stN_add j k]
theorem crcL_append (n : BitVec 32) (l m : List UInt8) : crcL n (l ++ m) = crcL (crcL n l) m := by simp [crcL]
/-! Bit by bit -/
end Go.Proofs.YtklbdhpnbjhgkaaGreatDoor
namespace Go.Proofs.YtklbdhpnbjhgkaaGreatDoor

/-! From the walk's integers to the sum's mathematics. -/
theorem and_one (n : BitVec 32) : bits .and .u32 (n.toNat : Int) 1 = bif n.getLsbD 0 then 1 else 0 := by
  have h := n.isLt
  have e := u32_and_nat n.toNat 1 (by omega) (by omega)
  rw [show ((1 : Nat) : Int) = 1 from rfl] at e
  rw [e, Nat.and_one_is_mod]
  have : n.getLsbD 0 = n.toNat.testBit 0 := rfl
  rw [this, Nat.testBit_zero]
  rcases Nat.mod_two_eq_zero_or_one n.toNat with h2 | h2 <;> simp [h2]
theorem xor_vec (m n : BitVec 32) : bits .xor .u32 (m.toNat : Int) (n.toNat : Int) = ((m ^^^ n).toNat : Int) := by
  have h1 := m.isLt
  have h2 := n.isLt
  rw [u32_xor_nat m.toNat n.toNat (by omega) (by omega), BitVec.toNat_xor]
theorem shr_one (n : BitVec 32) : (n.toNat : Int) / (2 : Int) = ((n >>> 1).toNat : Int) := by
  rw [BitVec.toNat_ushiftRight, Nat.shiftRight_eq_div_pow]; omega
theorem st_odd (n : BitVec 32) (h : n.getLsbD 0 = true) : bits .xor .u32 ((n.toNat : Int) / (2 : Int)) 3988292384 = ((st n).toNat : Int) := by
  have e : (3988292384 : Int) = (crcP.toNat : Int) := by decide
  rw [shr_one, e, xor_vec, st, h]; rfl
theorem st_even (n : BitVec 32) (h : n.getLsbD 0 = false) : (n.toNat : Int) / (2 : Int) = ((st n).toNat : Int) := by
  rw [shr_one, st, h]; simp
theorem xor_byte (n : BitVec 32) (b : UInt8) : bits .xor .u32 (n.toNat : Int) (b.toNat : Int) = ((n ^^^ BitVec.ofNat 32 b.toNat).toNat : Int) := by
  have h := b.toNat_lt
  have e : (b.toNat : Int) = ((BitVec.ofNat 32 b.toNat).toNat : Int) := by
    rw [BitVec.toNat_ofNat, Nat.mod_eq_of_lt (by omega)]
  rw [e, xor_vec]
end Go.Proofs.YtklbdhpnbjhgkaaGreatDoor
