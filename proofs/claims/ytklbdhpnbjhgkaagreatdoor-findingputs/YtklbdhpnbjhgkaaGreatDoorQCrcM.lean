import Derived.WalkKit
import Derived.Laws.BitsAllLaws
namespace Go.Proofs.YtklbdhpnbjhgkaaGreatDoor

/-! The sum of 32 bits, as plain mathematics; nothing of the program. -/
def crcP : BitVec 32 := 0xEDB88320#32
/-- One bit down. -/
def st (n : BitVec 32) : BitVec 32 := (n >>> 1) ^^^ (bif n.getLsbD 0 then crcP else 0#32)
def stN : Nat → BitVec 32 → BitVec 32
  | 0, n => n
  | k + 1, n => stN k (st n)
def byt (n : BitVec 32) (b : UInt8) : BitVec 32 := stN 8 (n ^^^ BitVec.ofNat 32 b.toNat)
def crcL (n : BitVec 32) (l : List UInt8) : BitVec 32 := l.foldl byt n
def ones : BitVec 32 := BitVec.allOnes 32
def sumL (l : List UInt8) : BitVec 32 := crcL ones l ^^^ ones

theorem st_xor (a b : BitVec 32) : st (a ^^^ b) = st a ^^^ st b := by
  unfold st
  rw [BitVec.ushiftRight_xor_distrib, BitVec.getLsbD_xor]
  have e : ∀ x y : Bool, (bif (x ^^ y) then crcP else 0#32) = (bif x then crcP else 0#32) ^^^ (bif y then crcP else 0#32) := by decide
  rw [e]
  generalize a >>> 1 = a1; generalize b >>> 1 = b1
  generalize (bif a.getLsbD 0 then crcP else 0#32) = x; generalize (bif b.getLsbD 0 then crcP else 0#32) = y
  ac_rfl
theorem st_zero : st 0#32 = 0#32 := by decide
theorem st_inj0 (n : BitVec 32) (h : st n = 0#32) : n = 0#32 := by
  unfold st at h
  cases hb : n.getLsbD 0
  · rw [hb] at h
    simp only [cond_false, BitVec.xor_zero] at h
    apply BitVec.eq_of_getLsbD_eq
    intro i hi
    rcases i with _ | i
    · rw [hb]; simp
    · have := congrArg (fun v => v.getLsbD i) h
      simp only [BitVec.getLsbD_ushiftRight, BitVec.getLsbD_zero] at this
      rw [Nat.add_comm 1 i] at this
      rw [this]; simp
  · rw [hb] at h
    simp only [cond_true] at h
    have := congrArg (fun v => v.getLsbD 31) h
    simp only [BitVec.getLsbD_xor, BitVec.getLsbD_ushiftRight, BitVec.getLsbD_zero] at this
    have e : n.getLsbD (1 + 31) = false := BitVec.getLsbD_of_ge _ _ (by omega)
    rw [e] at this
    exact absurd this (by decide)
theorem stN_xor : ∀ (k : Nat) (a b : BitVec 32), stN k (a ^^^ b) = stN k a ^^^ stN k b
  | 0, _, _ => rfl
  | k + 1, a, b => by rw [stN, stN, stN, st_xor, stN_xor k]
theorem stN_zero : ∀ k, stN k 0#32 = 0#32
  | 0 => rfl
  | k + 1 => by rw [stN, st_zero, stN_zero k]
theorem stN_inj0 : ∀ (k : Nat) (n : BitVec 32), stN k n = 0#32 → n = 0#32
  | 0, _, h => h
  | k + 1, n, h => st_inj0 n (stN_inj0 k (st n) h)
theorem stN_add : ∀ (j k : Nat) (n : BitVec 32), stN (j + k) n = stN k (stN j n)
  | 0, k, n => by rw [Nat.zero_add]; rfl
  | j + 1, k, n => by rw [show j + 1 + k = (j + k) + 1 by omega, stN, stN, stN_add j k]
theorem crcL_append (n : BitVec 32) (l m : List UInt8) : crcL n (l ++ m) = crcL (crcL n l) m := by simp [crcL]
theorem crcL_cons (n : BitVec 32) (b : UInt8) (l : List UInt8) : crcL n (b :: l) = crcL (byt n b) l := rfl
theorem ofNat_xor8 (a b : UInt8) : BitVec.ofNat 32 (a ^^^ b).toNat = BitVec.ofNat 32 a.toNat ^^^ BitVec.ofNat 32 b.toNat := by
  rw [UInt8.toNat_xor]
  apply BitVec.eq_of_getLsbD_eq
  intro i hi
  simp [hi]
theorem byt_xor (m n : BitVec 32) (a b : UInt8) : byt (m ^^^ n) (a ^^^ b) = byt m a ^^^ byt n b := by
  unfold byt
  rw [ofNat_xor8, ← stN_xor]
  congr 1
  ac_rfl
theorem crcL_xor : ∀ (l m : List UInt8) (a b : BitVec 32), l.length = m.length → crcL (a ^^^ b) (List.zipWith (· ^^^ ·) l m) = crcL a l ^^^ crcL b m
  | [], [], _, _, _ => rfl
  | x :: l, y :: m, a, b, h => by
    rw [List.zipWith_cons_cons, crcL_cons, crcL_cons, crcL_cons, byt_xor]
    exact crcL_xor l m _ _ (by simpa using h)
  | [], _ :: _, _, _, h => by simp at h
  | _ :: _, [], _, _, h => by simp at h
/-- The sums of three lists of one length go with xor. -/
theorem sumL_three (a b c : List UInt8) (h1 : a.length = b.length) (h2 : b.length = c.length) :
    sumL (List.zipWith (· ^^^ ·) (List.zipWith (· ^^^ ·) a b) c) = sumL a ^^^ sumL b ^^^ sumL c := by
  unfold sumL
  have e : ones = ones ^^^ ones ^^^ ones := by decide
  have h3 := crcL_xor (List.zipWith (· ^^^ ·) a b) c (ones ^^^ ones) ones (by simp; omega)
  rw [crcL_xor a b ones ones h1, ← e] at h3
  rw [h3]
  generalize crcL ones a = x; generalize crcL ones b = y; generalize crcL ones c = z
  have e2 : x ^^^ ones ^^^ (y ^^^ ones) ^^^ (z ^^^ ones) = x ^^^ y ^^^ z ^^^ (ones ^^^ ones ^^^ ones) := by ac_rfl
  rw [e2, ← e]
/-! Bit by bit -/
def bitV (b : Bool) : BitVec 32 := bif b then 1#32 else 0#32
/-- Bits fed one by one, the lowest first. -/
def feed : List Bool → BitVec 32 → BitVec 32
  | [], n => n
  | b :: r, n => feed r (st (n ^^^ bitV b))
/-- The number whose bits they are. -/
def numV : List Bool → BitVec 32
  | [] => 0#32
  | b :: r => bitV b ^^^ (numV r <<< 1)
theorem st_shl (x : BitVec 32) (h : x.getLsbD 31 = false) : st (x <<< 1) = x := by
  unfold st
  have e : (x <<< 1).getLsbD 0 = false := by simp
  rw [e]
  simp only [cond_false, BitVec.xor_zero]
  apply BitVec.eq_of_getLsbD_eq
  intro i hi
  rw [BitVec.getLsbD_ushiftRight, BitVec.getLsbD_shiftLeft]
  by_cases hi2 : i = 31
  · subst hi2; rw [h]; simp
  · have : 1 + i < 32 := by omega
    simp [this]
theorem numV_high : ∀ (l : List Bool) (i : Nat), l.length ≤ i → (numV l).getLsbD i = false
  | [], i, _ => by simp [numV]
  | b :: r, i, h => by
    have h' : r.length + 1 ≤ i := by simpa using h
    obtain ⟨j, rfl⟩ : ∃ j, i = j + 1 := ⟨i - 1, by omega⟩
    rw [numV, BitVec.getLsbD_xor, BitVec.getLsbD_shiftLeft]
    have e1 : (bitV b).getLsbD (j + 1) = false := by
      cases b
      · simp [bitV]
      · simp only [bitV, cond_true, BitVec.getLsbD_one]; simp
    have e2 := numV_high r j (by omega)
    rw [e1]
    simp [e2]
theorem feed_num : ∀ (l : List Bool) (n : BitVec 32), l.length ≤ 32 → feed l n = stN l.length (n ^^^ numV l)
  | [], n, _ => by simp [feed, numV, stN]
  | b :: r, n, h => by
    have h' : r.length ≤ 31 := by simpa using h
    rw [feed, feed_num r _ (by omega), List.length_cons, stN, numV]
    congr 1
    rw [← BitVec.xor_assoc, st_xor (n ^^^ bitV b) (numV r <<< 1), st_shl (numV r) (numV_high r 31 h')]
def bits8 (b : UInt8) : List Bool := (List.range 8).map fun i => b.toNat.testBit i
def bitsL (l : List UInt8) : List Bool := l.flatMap bits8
theorem numV_bits8 (b : UInt8) : numV (bits8 b) = BitVec.ofNat 32 b.toNat := by
  have h : ∀ n : Fin 256, numV ((List.range 8).map fun i => n.val.testBit i) = BitVec.ofNat 32 n.val := by decide +kernel
  exact h ⟨b.toNat, b.toNat_lt⟩
theorem feed_append : ∀ (l m : List Bool) (n : BitVec 32), feed (l ++ m) n = feed m (feed l n)
  | [], _, _ => rfl
  | _ :: l, m, n => by rw [List.cons_append, feed, feed, feed_append l m]
theorem crcL_feed : ∀ (l : List UInt8) (n : BitVec 32), crcL n l = feed (bitsL l) n
  | [], n => rfl
  | b :: l, n => by
    have e0 : bitsL (b :: l) = bits8 b ++ bitsL l := by simp [bitsL]
    rw [crcL_cons, crcL_feed l, e0, feed_append]
    congr 1
    rw [feed_num _ _ (by simp [bits8]), numV_bits8, byt]
    simp [bits8]
theorem feed_zeros : ∀ (k : Nat) (n : BitVec 32), feed (List.replicate k false) n = stN k n
  | 0, _ => rfl
  | k + 1, n => by rw [List.replicate_succ, feed, feed_zeros k, stN]; simp [bitV]
theorem numV_ne : ∀ (l : List Bool), l.length ≤ 32 → true ∈ l → numV l ≠ 0#32
  | b :: r, h, hm => by
    intro h0
    have h' : r.length ≤ 31 := by simpa using h
    have hb : b = false := by
      have := congrArg (fun v => v.getLsbD 0) h0
      simp only [numV, BitVec.getLsbD_xor, BitVec.getLsbD_shiftLeft, BitVec.getLsbD_zero] at this
      cases b
      · rfl
      · simp [bitV] at this
    subst hb
    have hr : true ∈ r := by simpa using hm
    refine numV_ne r (by omega) hr ?_
    have e : st (numV (false :: r)) = numV r := by
      rw [numV]; simp only [bitV, cond_false, BitVec.zero_xor]; exact st_shl _ (numV_high r 31 h')
    rw [h0, st_zero] at e
    exact e.symm
/-- A burst of up to 32 bits is always seen. -/
theorem feed_burst (p q : Nat) (e : List Bool) (he : e.length ≤ 32) (hm : true ∈ e) : feed (List.replicate p false ++ e ++ List.replicate q false) 0#32 ≠ 0#32 := by
  rw [feed_append, feed_append, feed_zeros q, feed_zeros p, stN_zero, feed_num e _ he, BitVec.zero_xor]
  intro h
  exact numV_ne e he hm (stN_inj0 _ _ (stN_inj0 _ _ h))
end Go.Proofs.YtklbdhpnbjhgkaaGreatDoor
namespace Go.Proofs.YtklbdhpnbjhgkaaGreatDoor

/-! From the walk's integers to the sum's mathematics. -/
theorem u32_of (n : BitVec 32) : (n.toNat : Int) < 4294967296 := by have := n.isLt; omega
theorem and_one (n : BitVec 32) : bits .and .u32 (n.toNat : Int) 1 = bif n.getLsbD 0 then 1 else 0 := by
  have h := n.isLt
  have e := u32_and_nat n.toNat 1 (by omega) (by omega)
  rw [show ((1 : Nat) : Int) = 1 from rfl] at e
  rw [e, Nat.and_one_is_mod]
  have : n.getLsbD 0 = n.toNat.testBit 0 := rfl
  rw [this, Nat.testBit_zero]
  rcases Nat.mod_two_eq_zero_or_one n.toNat with h2 | h2 <;> simp [h2]
theorem xor_vec (m n : BitVec 32) : bits .xor .u32 (m.toNat : Int) (n.toNat : Int) = ((m ^^^ n).toNat : Int) := by
  have h1 := m.isLt
  have h2 := n.isLt
  rw [u32_xor_nat m.toNat n.toNat (by omega) (by omega), BitVec.toNat_xor]
theorem shr_one (n : BitVec 32) : (n.toNat : Int) / (2 : Int) = ((n >>> 1).toNat : Int) := by
  rw [BitVec.toNat_ushiftRight, Nat.shiftRight_eq_div_pow]; omega
theorem st_odd (n : BitVec 32) (h : n.getLsbD 0 = true) : bits .xor .u32 ((n.toNat : Int) / (2 : Int)) 3988292384 = ((st n).toNat : Int) := by
  have e : (3988292384 : Int) = (crcP.toNat : Int) := by decide
  rw [shr_one, e, xor_vec, st, h]; rfl
theorem st_even (n : BitVec 32) (h : n.getLsbD 0 = false) : (n.toNat : Int) / (2 : Int) = ((st n).toNat : Int) := by
  rw [shr_one, st, h]; simp
theorem xor_byte (n : BitVec 32) (b : UInt8) : bits .xor .u32 (n.toNat : Int) (b.toNat : Int) = ((n ^^^ BitVec.ofNat 32 b.toNat).toNat : Int) := by
  have h := b.toNat_lt
  have e : (b.toNat : Int) = ((BitVec.ofNat 32 b.toNat).toNat : Int) := by
    rw [BitVec.toNat_ofNat, Nat.mod_eq_of_lt (by omega)]
  rw [e, xor_vec]
theorem xor_ones (n : BitVec 32) : bits .xor .u32 (n.toNat : Int) 4294967295 = ((n ^^^ ones).toNat : Int) := by
  have e : (4294967295 : Int) = (ones.toNat : Int) := by decide
  rw [e, xor_vec]
theorem ones_nat : (4294967295 : Int) = (ones.toNat : Int) := by decide
/-- Two lists of one length whose bytes xored are a burst have other sums. -/
theorem sumL_burst (l m : List UInt8) (p q : Nat) (e : List Bool) (h : l.length = m.length) (hx : bitsL (List.zipWith (· ^^^ ·) l m) = List.replicate p false ++ e ++ List.replicate q false) (he : e.length ≤ 32) (hm : true ∈ e) : sumL l ≠ sumL m := by
  intro hs
  have h1 : crcL ones l = crcL ones m := by
    unfold sumL at hs
    have := congrArg (· ^^^ ones) hs
    simpa [BitVec.xor_assoc] using this
  have h2 := crcL_xor l m ones ones h
  rw [h1, BitVec.xor_self, BitVec.xor_self, crcL_feed, hx] at h2
  exact feed_burst p q e he hm h2
theorem bitsL_length (l : List UInt8) : (bitsL l).length = 8 * l.length := by
  induction l with
  | nil => rfl
  | cons b l ih => simp only [bitsL, List.flatMap_cons, List.length_append, List.length_cons] at *; rw [ih]; simp [bits8]; omega
/-- Bit k of a list of bytes. -/
def bitAt (l : List UInt8) (k : Nat) : Bool := (l[k / 8]?.getD 0).toNat.testBit (k % 8)
theorem bitsL_get (l : List UInt8) : ∀ k, k < 8 * l.length → (bitsL l)[k]? = some (bitAt l k) := by
  induction l with
  | nil => intro k hk; simp at hk
  | cons b l ih =>
    intro k hk
    have e0 : bitsL (b :: l) = bits8 b ++ bitsL l := by simp [bitsL]
    have e8 : (bits8 b).length = 8 := by simp [bits8]
    rw [e0]
    by_cases h : k < 8
    · rw [List.getElem?_append_left (by omega)]
      have h1 : k / 8 = 0 := by omega
      have h2 : k % 8 = k := by omega
      simp [bits8, bitAt, h, h1, h2]
    · rw [List.getElem?_append_right (by omega), e8, ih (k - 8) (by simp at hk; omega)]
      unfold bitAt
      have h1 : k / 8 = (k - 8) / 8 + 1 := by omega
      have h2 : k % 8 = (k - 8) % 8 := by omega
      rw [h1, h2, List.getElem?_cons_succ]
theorem bitAt_xor (l m : List UInt8) (h : l.length = m.length) (k : Nat) (hk : k < 8 * l.length) : bitAt (List.zipWith (· ^^^ ·) l m) k = (bitAt l k ^^ bitAt m k) := by
  unfold bitAt
  have h1 : k / 8 < l.length := by omega
  have h2 : k / 8 < m.length := by omega
  rw [List.getElem?_zipWith, List.getElem?_eq_getElem h1, List.getElem?_eq_getElem h2]
  simp [UInt8.toNat_xor, Nat.testBit_xor]
/-- Lists of one length that differ in some bits, all within 32 in a row: other sums. -/
theorem sumL_differ (l m : List UInt8) (bit : Nat) (h : l.length = m.length) (hout : ∀ k, k < 8 * l.length → bitAt l k ≠ bitAt m k → bit ≤ k ∧ k < bit + 32) (hin : ∃ k, k < 8 * l.length ∧ bitAt l k ≠ bitAt m k) : sumL l ≠ sumL m := by
  obtain ⟨k0, hk0, hd0⟩ := hin
  have hb0 := hout k0 hk0 hd0
  have hbl : bit ≤ 8 * l.length := by omega
  have hlen : (List.zipWith (· ^^^ ·) l m).length = l.length := by simp; omega
  let w := min 32 (8 * l.length - bit)
  refine sumL_burst l m bit (8 * l.length - bit - w) ((List.range w).map fun i => (bitAt l (bit + i) ^^ bitAt m (bit + i))) h ?_ (by simp; omega) ?_
  · apply List.ext_getElem?
    intro k
    by_cases hk : k < 8 * l.length
    · rw [bitsL_get _ k (by rw [hlen]; exact hk), bitAt_xor l m h k hk]
      by_cases h1 : k < bit
      · rw [List.append_assoc, List.getElem?_append_left (by simpa using h1)]
        have : bitAt l k = bitAt m k := by
          apply Classical.byContradiction; intro hc; have := hout k hk hc; omega
        simp [h1, this]
      · by_cases h2 : k < bit + w
        · rw [List.getElem?_append_left (by simp; omega), List.getElem?_append_right (by simp; omega)]
          simp only [List.length_replicate, List.getElem?_map]
          rw [List.getElem?_range (by omega)]
          simp only [Option.map_some]
          rw [show bit + (k - bit) = k by omega]
        · rw [List.getElem?_append_right (by simp; omega)]
          have hc : bitAt l k = bitAt m k := by
            apply Classical.byContradiction; intro hc; have := hout k hk hc; omega
          rw [List.getElem?_replicate, if_pos (by simp; omega), hc]; simp
    · rw [List.getElem?_eq_none (by rw [bitsL_length, hlen]; omega), List.getElem?_eq_none (by simp; omega)]
  · rw [List.mem_map]
    refine ⟨k0 - bit, by rw [List.mem_range]; omega, ?_⟩
    rw [show bit + (k0 - bit) = k0 by omega]
    cases h1 : bitAt l k0 <;> cases h2 : bitAt m k0 <;> simp_all
end Go.Proofs.YtklbdhpnbjhgkaaGreatDoor
