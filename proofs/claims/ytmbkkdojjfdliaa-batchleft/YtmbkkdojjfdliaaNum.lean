
import Derived.WalkKit
import Derived.Laws.BitsAllLaws
namespace Go.Proofs.Ytmbkkdojjfdliaa
open Go.RowKit

/-! Plain facts on numbers and bytes; nothing of the program. -/

def inB (a n : Int) : Bool := decide (0 ≤ a ∧ 0 ≤ n ∧ n ≤ 64 - a)
theorem inB_iff (a n : Int) : inB a n = true ↔ 0 ≤ a ∧ 0 ≤ n ∧ n ≤ 64 - a := by simp [inB]
theorem inB_no (a n : Int) : inB a n = false ↔ ¬ (0 ≤ a ∧ 0 ≤ n ∧ n ≤ 64 - a) := by simp [inB]

def upd (s : Nat → UInt8) (i : Nat) (b : UInt8) : Nat → UInt8 := fun j => if j = i then b else s j

/-- The number of the first k bytes from a on, the lowest first. -/
def numN (s : Nat → UInt8) (a : Nat) : Nat → Nat
  | 0 => 0
  | k + 1 => numN s a k + (s (a + k)).toNat * 256 ^ k
theorem numN_lt (s : Nat → UInt8) (a : Nat) : ∀ k, numN s a k < 256 ^ k
  | 0 => by simp [numN]
  | k + 1 => by
    have h := numN_lt s a k
    have hb := (s (a + k)).toNat_lt
    have : (s (a + k)).toNat * 256 ^ k ≤ 255 * 256 ^ k := Nat.mul_le_mul_right _ (by omega)
    rw [numN, Nat.pow_succ]
    omega
theorem numN_congr (s t : Nat → UInt8) (a : Nat) : ∀ k, (∀ i, i < k → s (a + i) = t (a + i)) → numN s a k = numN t a k
  | 0, _ => rfl
  | k + 1, h => by rw [numN, numN, numN_congr s t a k (fun i hi => h i (by omega)), h k (by omega)]
theorem or_step (v b k : Nat) (hk : k < 4) (hv : v < 256 ^ k) (hb : b < 256) :
    bits .or .u32 (v : Int) ((b : Int) % 4294967296 * 2 ^ (8 * k) % 4294967296) = ((v + b * 256 ^ k : Nat) : Int) := by
  have e : ((b : Int) % 4294967296 * 2 ^ (8 * k) % 4294967296) = ((b * 256 ^ k : Nat) : Int) := by
    have h1 : (256 : Nat) ^ k = 2 ^ (8 * k) := by rw [Nat.pow_mul]
    have h2 : b * 256 ^ k < 4294967296 := by
      have : b * 256 ^ k ≤ 255 * 256 ^ k := Nat.mul_le_mul_right _ (by omega)
      have : (256 : Nat) ^ k ≤ 256 ^ 3 := Nat.pow_le_pow_right (by omega) (by omega)
      omega
    have e0 : (b : Int) % 4294967296 = (b : Int) := Int.emod_eq_of_lt (by omega) (by omega)
    have e1 : ((2 : Int) ^ (8 * k)) = ((256 ^ k : Nat) : Int) := by rw [h1]; simp
    rw [e0, e1, ← Int.natCast_mul, Int.emod_eq_of_lt (by omega) (by omega)]
  have h2 : b * 256 ^ k < 4294967296 := by
    have : b * 256 ^ k ≤ 255 * 256 ^ k := Nat.mul_le_mul_right _ (by omega)
    have : (256 : Nat) ^ k ≤ 256 ^ 3 := Nat.pow_le_pow_right (by omega) (by omega)
    omega
  have h3 : (256 : Nat) ^ k ≤ 256 ^ 3 := Nat.pow_le_pow_right (by omega) (by omega)
  rw [e, u32_or_nat v (b * 256 ^ k) (by omega) h2]
  have h1 : (256 : Nat) ^ k = 2 ^ (8 * k) := by rw [Nat.pow_mul]
  rw [h1] at hv ⊢
  have := Nat.two_pow_add_eq_or_of_lt hv b
  rw [Nat.or_comm, Nat.mul_comm b, ← this, Nat.add_comm]

/-- The sector with the n lowest bytes of v from a on. -/
def putN (s : Nat → UInt8) (a v n : Nat) : Nat → UInt8 := fun j => if a ≤ j ∧ j < a + n then UInt8.ofNat (v / 256 ^ (j - a)) else s j
theorem putN_zero (s : Nat → UInt8) (a v : Nat) : putN s a v 0 = s := by
  funext j; unfold putN; rw [if_neg (by omega)]
theorem putN_succ (s : Nat → UInt8) (a v k : Nat) : putN s a v (k + 1) = upd (putN s a v k) (a + k) (UInt8.ofNat (v / 256 ^ k)) := by
  funext j
  unfold putN upd
  by_cases h : j = a + k
  · subst h; rw [if_pos (by omega), if_pos rfl, show a + k - a = k by omega]
  · rw [if_neg h]
    by_cases h2 : a ≤ j ∧ j < a + k
    · rw [if_pos (by omega)]; simp only; rw [if_pos h2]
    · rw [if_neg (by omega)]; simp only; rw [if_neg h2]
theorem numN_putN (s : Nat → UInt8) (a v n : Nat) : ∀ k, k ≤ n → numN (putN s a v n) a k = v % 256 ^ k
  | 0, _ => by simp [numN, Nat.mod_one]
  | k + 1, h => by
    rw [numN, numN_putN s a v n k (by omega)]
    have e : (putN s a v n (a + k)).toNat = v / 256 ^ k % 256 := by
      unfold putN; rw [if_pos (by omega), show a + k - a = k by omega]; simp
    rw [e, Nat.pow_succ, Nat.mod_mul]
    rw [Nat.mul_comm (256 ^ k)]
theorem shr_byte (v k : Nat) : (UInt8.ofNat (v / 256 ^ k)).toNat = v / 256 ^ k % 256 := by simp
theorem shr_form (v k : Nat) : ((v : Int) / 2 ^ (8 * k) % 256) = ((UInt8.ofNat (v / 256 ^ k)).toNat : Int) := by
  have h1 : (256 : Nat) ^ k = 2 ^ (8 * k) := by rw [Nat.pow_mul]
  have e1 : ((2 : Int) ^ (8 * k)) = ((256 ^ k : Nat) : Int) := by rw [h1]; simp
  rw [shr_byte, e1]
  omega
/-- What is put where there is room. -/
def putI (s : Nat → UInt8) (a : Int) (v n : Nat) : Nat → UInt8 := if inB a n then putN s a.toNat v n else s
/-- The number that is read where there is one. -/
def numI (s : Nat → UInt8) (a n : Int) : Nat := if inB a n then numN s a.toNat n.toNat else 0
theorem numI_lt (s : Nat → UInt8) (a n : Int) : numI s a n < 256 ^ n.toNat := by
  unfold numI; split
  · exact numN_lt s _ _
  · exact Nat.pow_pos (by omega)
/-- m bytes of t from p on, laid into s from o on. -/
def blit (s : Nat → UInt8) (o : Nat) (t : Nat → UInt8) (p m : Nat) : Nat → UInt8 := fun j => if o ≤ j ∧ j < o + m then t (p + (j - o)) else s j

/-- A stretch of zeros. -/
def zfB (s : Nat → UInt8) (a b : Int) : Bool := decide (0 ≤ a ∧ a ≤ b ∧ b ≤ 64) && (List.range 64).all fun i => decide (a ≤ (i : Int) ∧ (i : Int) < b → s i = 0)
theorem zfB_iff (s : Nat → UInt8) (a b : Int) : zfB s a b = true ↔ (0 ≤ a ∧ a ≤ b ∧ b ≤ 64) ∧ ∀ i : Nat, i < 64 → a ≤ (i : Int) → (i : Int) < b → s i = 0 := by
  simp only [zfB, Bool.and_eq_true, decide_eq_true_eq, List.all_eq_true, List.mem_range]
  constructor
  · rintro ⟨h, k⟩; exact ⟨h, fun i hi h1 h2 => k i hi ⟨h1, h2⟩⟩
  · rintro ⟨h, k⟩; exact ⟨h, fun i hi h1 => k i hi h1.1 h1.2⟩

theorem zfB_one (s : Nat → UInt8) (k : Nat) (h : k < 64) : zfB s k ((k : Int) + 1) = (((s k).toNat : Int) == 0) := by
  rw [Bool.eq_iff_iff, zfB_iff, beq_iff_eq]
  constructor
  · rintro ⟨_, h2⟩; have := h2 k h (by omega) (by omega); rw [this]; rfl
  · intro h2
    refine ⟨by omega, fun i hi h3 h4 => ?_⟩
    obtain rfl : i = k := by omega
    exact UInt8.toNat_inj.1 (by simpa using h2)
theorem zfB_cut (s : Nat → UInt8) (a k b : Int) (h : a ≤ k) (h' : k ≤ b) (ha : 0 ≤ a) (hb : b ≤ 64) : zfB s a b = (zfB s a k && zfB s k b) := by
  rw [Bool.eq_iff_iff, Bool.and_eq_true, zfB_iff, zfB_iff, zfB_iff]
  constructor
  · rintro ⟨_, h2⟩; exact ⟨⟨by omega, fun i hi h3 h4 => h2 i hi h3 (by omega)⟩, ⟨by omega, fun i hi h3 h4 => h2 i hi (by omega) h4⟩⟩
  · rintro ⟨⟨_, h2⟩, _, h3⟩
    refine ⟨by omega, fun i hi h4 h5 => ?_⟩
    by_cases h6 : (i : Int) < k
    · exact h2 i hi h4 h6
    · exact h3 i hi (by omega) h5
theorem zfB_none (s : Nat → UInt8) (a : Int) (h : 0 ≤ a) (h' : a ≤ 64) : zfB s a a = true := by
  rw [zfB_iff]; exact ⟨by omega, fun i hi h3 h4 => by omega⟩
theorem zfB_bad (s : Nat → UInt8) (a b : Int) (h : ¬ (0 ≤ a ∧ a ≤ b ∧ b ≤ 64)) : zfB s a b = false := by
  cases hz : zfB s a b
  · rfl
  · exact absurd ((zfB_iff s a b).1 hz).1 h

end Go.Proofs.Ytmbkkdojjfdliaa
