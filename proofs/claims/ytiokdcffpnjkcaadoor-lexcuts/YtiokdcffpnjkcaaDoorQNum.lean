import Derived.WalkKit
import Derived.Laws.BitsAllLaws
import Derived.Test.YtiokdcffpnjkcaaDoorRows
import Derived.WalkSpells
import Derived.WalkLawsBesides
import Derived.Deep.WholeRow
import Derived.Laws.CopyRow
import Derived.Stop.BytesEq
import Derived.Laws.IdiomStrings
namespace Go.Proofs.YtiokdcffpnjkcaaDoor
open Go.RowKit

/-! Plain facts on numbers and bytes; nothing of the program. -/

def inB (a n : Int) : Bool := decide (0 ≤ a ∧ 0 ≤ n ∧ n ≤ 64 - a)
theorem inB_iff (a n : Int) : inB a n = true ↔ 0 ≤ a ∧ 0 ≤ n ∧ n ≤ 64 - a := by simp [inB]
theorem inB_no (a n : Int) : inB a n = false ↔ ¬ (0 ≤ a ∧ 0 ≤ n ∧ n ≤ 64 - a) := by simp [inB]

def upd (s : Nat → UInt8) (i : Nat) (b : UInt8) : Nat → UInt8 := fun j => if j = i then b else s j

/-- The number of the first k bytes from a on, the lowest first. -/
def numN (s : Nat → UInt8) (a : Nat) : Nat → Nat
  | 0 => 0
  | k + 1 => numN s a k + (s (a + k)).toNat * 256 ^ k
theorem numN_lt (s : Nat → UInt8) (a : Nat) : ∀ k, numN s a k < 256 ^ k
  | 0 => by simp [numN]
  | k + 1 => by
    have h := numN_lt s a k
    have hb := (s (a + k)).toNat_lt
    have : (s (a + k)).toNat * 256 ^ k ≤ 255 * 256 ^ k := Nat.mul_le_mul_right _ (by omega)
    rw [numN, Nat.pow_succ]
    omega
theorem numN_congr (s t : Nat → UInt8) (a : Nat) : ∀ k, (∀ i, i < k → s (a + i) = t (a + i)) → numN s a k = numN t a k
  | 0, _ => rfl
  | k + 1, h => by rw [numN, numN, numN_congr s t a k (fun i hi => h i (by omega)), h k (by omega)]
theorem or_step (v b k : Nat) (hk : k < 4) (hv : v < 256 ^ k) (hb : b < 256) :
    bits .or .u32 (v : Int) ((b : Int) % 4294967296 * 2 ^ (8 * k) % 4294967296) = ((v + b * 256 ^ k : Nat) : Int) := by
  have e : ((b : Int) % 4294967296 * 2 ^ (8 * k) % 4294967296) = ((b * 256 ^ k : Nat) : Int) := by
    have h1 : (256 : Nat) ^ k = 2 ^ (8 * k) := by rw [Nat.pow_mul]
    have h2 : b * 256 ^ k < 4294967296 := by
      have : b * 256 ^ k ≤ 255 * 256 ^ k := Nat.mul_le_mul_right _ (by omega)
      have : (256 : Nat) ^ k ≤ 256 ^ 3 := Nat.pow_le_pow_right (by omega) (by omega)
      omega
    have e0 : (b : Int) % 4294967296 = (b : Int) := Int.emod_eq_of_lt (by omega) (by omega)
    have e1 : ((2 : Int) ^ (8 * k)) = ((256 ^ k : Nat) : Int) := by rw [h1]; simp
    rw [e0, e1, ← Int.natCast_mul, Int.emod_eq_of_lt (by omega) (by omega)]
  have h2 : b * 256 ^ k < 4294967296 := by
    have : b * 256 ^ k ≤ 255 * 256 ^ k := Nat.mul_le_mul_right _ (by omega)
    have : (256 : Nat) ^ k ≤ 256 ^ 3 := Nat.pow_le_pow_right (by omega) (by omega)
    omega
  have h3 : (256 : Nat) ^ k ≤ 256 ^ 3 := Nat.pow_le_pow_right (by omega) (by omega)
  rw [e, u32_or_nat v (b * 256 ^ k) (by omega) h2]
  have h1 : (256 : Nat) ^ k = 2 ^ (8 * k) := by rw [Nat.pow_mul]
  rw [h1] at hv ⊢
  have := Nat.two_pow_add_eq_or_of_lt hv b
  rw [Nat.or_comm, Nat.mul_comm b, ← this, Nat.add_comm]

/-- The sector with the n lowest bytes of v from a on. -/
def putN (s : Nat → UInt8) (a v n : Nat) : Nat → UInt8 := fun j => if a ≤ j ∧ j < a + n then UInt8.ofNat (v / 256 ^ (j - a)) else s j
theorem putN_zero (s : Nat → UInt8) (a v : Nat) : putN s a v 0 = s := by
  funext j; unfold putN; rw [if_neg (by omega)]
theorem putN_succ (s : Nat → UInt8) (a v k : Nat) : putN s a v (k + 1) = upd (putN s a v k) (a + k) (UInt8.ofNat (v / 256 ^ k)) := by
  funext j
  unfold putN upd
  by_cases h : j = a + k
  · subst h; rw [if_pos (by omega), if_pos rfl, show a + k - a = k by omega]
  · rw [if_neg h]
    by_cases h2 : a ≤ j ∧ j < a + k
    · rw [if_pos (by omega)]; simp only; rw [if_pos h2]
    · rw [if_neg (by omega)]; simp only; rw [if_neg h2]
theorem numN_putN (s : Nat → UInt8) (a v n : Nat) : ∀ k, k ≤ n → numN (putN s a v n) a k = v % 256 ^ k
  | 0, _ => by simp [numN, Nat.mod_one]
  | k + 1, h => by
    rw [numN, numN_putN s a v n k (by omega)]
    have e : (putN s a v n (a + k)).toNat = v / 256 ^ k % 256 := by
      unfold putN; rw [if_pos (by omega), show a + k - a = k by omega]; simp
    rw [e, Nat.pow_succ, Nat.mod_mul]
    rw [Nat.mul_comm (256 ^ k)]
theorem shr_byte (v k : Nat) : (UInt8.ofNat (v / 256 ^ k)).toNat = v / 256 ^ k % 256 := by simp
theorem shr_form (v k : Nat) : ((v : Int) / 2 ^ (8 * k) % 256) = ((UInt8.ofNat (v / 256 ^ k)).toNat : Int) := by
  have h1 : (256 : Nat) ^ k = 2 ^ (8 * k) := by rw [Nat.pow_mul]
  have e1 : ((2 : Int) ^ (8 * k)) = ((256 ^ k : Nat) : Int) := by rw [h1]; simp
  rw [shr_byte, e1]
  omega
/-- What is put where there is room. -/
def putI (s : Nat → UInt8) (a : Int) (v n : Nat) : Nat → UInt8 := if inB a n then putN s a.toNat v n else s
/-- The number that is read where there is one. -/
def numI (s : Nat → UInt8) (a n : Int) : Nat := if inB a n then numN s a.toNat n.toNat else 0
theorem numI_lt (s : Nat → UInt8) (a n : Int) : numI s a n < 256 ^ n.toNat := by
  unfold numI; split
  · exact numN_lt s _ _
  · exact Nat.pow_pos (by omega)
/-- m bytes of t from p on, laid into s from o on. -/
def blit (s : Nat → UInt8) (o : Nat) (t : Nat → UInt8) (p m : Nat) : Nat → UInt8 := fun j => if o ≤ j ∧ j < o + m then t (p + (j - o)) else s j

/-- A stretch of zeros. -/
def zfB (s : Nat → UInt8) (a b : Int) : Bool := decide (0 ≤ a ∧ a ≤ b ∧ b ≤ 64) && (List.range 64).all fun i => decide (a ≤ (i : Int) ∧ (i : Int) < b → s i = 0)
theorem zfB_iff (s : Nat → UInt8) (a b : Int) : zfB s a b = true ↔ (0 ≤ a ∧ a ≤ b ∧ b ≤ 64) ∧ ∀ i : Nat, i < 64 → a ≤ (i : Int) → (i : Int) < b → s i = 0 := by
  simp only [zfB, Bool.and_eq_true, decide_eq_true_eq, List.all_eq_true, List.mem_range]
  constructor
  · rintro ⟨h, k⟩; exact ⟨h, fun i hi h1 h2 => k i hi ⟨h1, h2⟩⟩
  · rintro ⟨h, k⟩; exact ⟨h, fun i hi h1 => k i hi h1.1 h1.2⟩

theorem zfB_one (s : Nat → UInt8) (k : Nat) (h : k < 64) : zfB s k ((k : Int) + 1) = (((s k).toNat : Int) == 0) := by
  rw [Bool.eq_iff_iff, zfB_iff, beq_iff_eq]
  constructor
  · rintro ⟨_, h2⟩; have := h2 k h (by omega) (by omega); rw [this]; rfl
  · intro h2
    refine ⟨by omega, fun i hi h3 h4 => ?_⟩
    obtain rfl : i = k := by omega
    exact UInt8.toNat_inj.1 (by simpa using h2)
theorem zfB_cut (s : Nat → UInt8) (a k b : Int) (h : a ≤ k) (h' : k ≤ b) (ha : 0 ≤ a) (hb : b ≤ 64) : zfB s a b = (zfB s a k && zfB s k b) := by
  rw [Bool.eq_iff_iff, Bool.and_eq_true, zfB_iff, zfB_iff, zfB_iff]
  constructor
  · rintro ⟨_, h2⟩; exact ⟨⟨by omega, fun i hi h3 h4 => h2 i hi h3 (by omega)⟩, ⟨by omega, fun i hi h3 h4 => h2 i hi (by omega) h4⟩⟩
  · rintro ⟨⟨_, h2⟩, _, h3⟩
    refine ⟨by omega, fun i hi h4 h5 => ?_⟩
    by_cases h6 : (i : Int) < k
    · exact h2 i hi h4 h6
    · exact h3 i hi (by omega) h5
theorem zfB_none (s : Nat → UInt8) (a : Int) (h : 0 ≤ a) (h' : a ≤ 64) : zfB s a a = true := by
  rw [zfB_iff]; exact ⟨by omega, fun i hi h3 h4 => by omega⟩
theorem zfB_bad (s : Nat → UInt8) (a b : Int) (h : ¬ (0 ≤ a ∧ a ≤ b ∧ b ≤ 64)) : zfB s a b = false := by
  cases hz : zfB s a b
  · rfl
  · exact absurd ((zfB_iff s a b).1 hz).1 h

end Go.Proofs.YtiokdcffpnjkcaaDoor
namespace Go.Proofs.YtiokdcffpnjkcaaDoor
open Go.RowKit

/-! Names by definition, over lists of bytes -/
def lB (l : List UInt8) (k : Nat) : UInt8 := l[k]?.getD 0
def chN (b : UInt8) : Bool := decide (97 ≤ b.toNat ∧ b.toNat ≤ 122) || decide (65 ≤ b.toNat ∧ b.toNat ≤ 90) || decide (48 ≤ b.toNat ∧ b.toNat ≤ 57) || decide (b.toNat = 95)
def ch2 (b : UInt8) : Bool := decide (b.toNat = 46) || decide (b.toNat = 45)
/-- May the byte at k stand there? -/
def okC (l : List UInt8) (k : Nat) : Bool := chN (lB l k) || (decide (0 < k) && ch2 (lB l k))
def okN (l : List UInt8) : Nat → Bool
  | 0 => true
  | k + 1 => okN l k && okC l k
def lenN (n : Nat) : Bool := decide (1 ≤ n ∧ n ≤ 24)
def isN (l : List UInt8) : Bool := lenN l.length && okN l l.length
def chkN (l : List UInt8) : Int := bif isN l then 0 else 36
theorem okN_all (l : List UInt8) : ∀ k, okN l k = true ↔ ∀ i, i < k → okC l i = true
  | 0 => by simp [okN]
  | k + 1 => by
    rw [okN, Bool.and_eq_true, okN_all l k]
    constructor
    · rintro ⟨h1, h2⟩ i hi
      rcases Nat.lt_or_ge i k with h | h
      · exact h1 i h
      · obtain rfl : i = k := by omega
        exact h2
    · intro h
      exact ⟨fun i hi => h i (by omega), h k (by omega)⟩
theorem okN_not (l : List UInt8) (k n : Nat) (hk : k < n) (h : okC l k = false) : okN l n = false := by
  cases e : okN l n with
  | false => rfl
  | true => rw [(okN_all l n).1 e k hk] at h; cases h
/-! The bytes of a name, and zeros -/
def padN (l : List UInt8) : List UInt8 := l ++ List.replicate (24 - l.length) 0
theorem padN_len (l : List UInt8) (h : isN l = true) : (padN l).length = 24 := by
  unfold isN lenN at h
  simp at h
  unfold padN
  rw [List.length_append, List.length_replicate]; omega
/-- What is read of bytes. -/
def zeroN (b : List UInt8) (n : Nat) : Nat → Bool
  | 0 => true
  | k + 1 => zeroN b n k && decide (lB b (n + k) = 0)
def getB (b : List UInt8) (n : Int) : Bool := decide (b.length = 24) && decide (1 ≤ n ∧ n ≤ 24) && isN (b.take n.toNat) && zeroN b n.toNat (24 - n.toNat)
def getS (b : List UInt8) (n : Int) : List UInt8 := bif getB b n then b.take n.toNat else []
theorem zeroN_all (b : List UInt8) (n : Nat) : ∀ k, zeroN b n k = true ↔ ∀ i, i < k → lB b (n + i) = 0
  | 0 => by simp [zeroN]
  | k + 1 => by
    rw [zeroN, Bool.and_eq_true, zeroN_all b n k, decide_eq_true_eq]
    constructor
    · rintro ⟨h1, h2⟩ i hi
      rcases Nat.lt_or_ge i k with h | h
      · exact h1 i h
      · obtain rfl : i = k := by omega
        exact h2
    · intro h
      exact ⟨fun i hi => h i (by omega), h k (by omega)⟩
theorem zeroN_not (b : List UInt8) (n k m : Nat) (hk : k < m) (h : lB b (n + k) ≠ 0) : zeroN b n m = false := by
  cases e : zeroN b n m with
  | false => rfl
  | true => exact absurd ((zeroN_all b n m).1 e k hk) h
theorem isN_len {l : List UInt8} (h : isN l = true) : 1 ≤ l.length ∧ l.length ≤ 24 := by
  unfold isN lenN at h
  rw [Bool.and_eq_true, decide_eq_true_eq] at h
  exact h.1
theorem lB_app (l m : List UInt8) (k : Nat) (h : k < l.length) : lB (l ++ m) k = lB l k := by
  unfold lB; rw [List.getElem?_append_left h]
theorem okC_congr {l m : List UInt8} {k : Nat} (h : lB l k = lB m k) : okC l k = okC m k := by unfold okC; rw [h]
/-- A byte that may stand in a name is not 0. -/
theorem okC_zero {l : List UInt8} {k : Nat} (h : okC l k = true) : lB l k ≠ 0 := by
  intro e
  unfold okC at h
  rw [e] at h
  have : (0 : UInt8).toNat = 0 := rfl
  unfold chN ch2 at h
  simp [this] at h
/-- What was put is read by its length alone. -/
theorem getB_put (l : List UInt8) (h : isN l = true) (n : Int) : getB (padN l) n = decide (n = (l.length : Int)) := by
  have hl := isN_len h
  have hp := padN_len l h
  by_cases hn : n = (l.length : Int)
  · subst hn
    have e1 : (padN l).take l.length = l := by unfold padN; simp
    have ez : zeroN (padN l) l.length (24 - l.length) = true := (zeroN_all _ _ _).2 fun i hi => by
      unfold padN lB
      rw [List.getElem?_append_right (by omega), List.getElem?_replicate_of_lt (by omega)]; rfl
    unfold getB
    rw [hp, Int.toNat_natCast, e1, h, ez]
    simp; omega
  · rw [decide_eq_false hn]
    unfold getB
    by_cases hr : 1 ≤ n ∧ n ≤ 24
    · obtain ⟨m, rfl⟩ : ∃ m : Nat, n = (m : Int) := ⟨n.toNat, by omega⟩
      rw [Int.toNat_natCast]
      by_cases hlt : m < l.length
      · have hz : zeroN (padN l) m (24 - m) = false := by
          refine zeroN_not _ _ 0 _ (by omega) ?_
          rw [Nat.add_zero]
          unfold padN
          rw [lB_app _ _ _ hlt]
          unfold isN at h
          rw [Bool.and_eq_true] at h
          exact okC_zero ((okN_all _ _).1 h.2 m hlt)
        rw [hz, Bool.and_false]
      · have hm : l.length < m := by omega
        have hf : isN ((padN l).take m) = false := by
          unfold isN
          rw [List.length_take, hp, show min m 24 = m by omega]
          rw [okN_not _ l.length m hm, Bool.and_false]
          unfold okC lB
          rw [List.getElem?_take_of_lt hm]
          unfold padN
          rw [List.getElem?_append_right (by omega), Nat.sub_self, List.getElem?_replicate_of_lt (by omega)]
          simp [chN, ch2]
        rw [hf, Bool.and_false, Bool.false_and]
    · rw [decide_eq_false hr, Bool.and_false, Bool.false_and, Bool.false_and]
theorem getS_put (l : List UInt8) (h : isN l = true) (n : Int) : getS (padN l) n = bif decide (n = (l.length : Int)) then l else [] := by
  unfold getS
  rw [getB_put l h n]
  by_cases hn : n = (l.length : Int)
  · subst hn
    simp [padN]
  · simp [hn]
/-! Seen part by part -/
theorem okC_behind (l : List UInt8) (i : Nat) (h : 0 < i) : okC l i = isN [97, lB l i] := by
  have e : isN [97, lB l i] = (okC [97, lB l i] 0 && okC [97, lB l i] 1) := by
    unfold isN
    show (lenN 2 && (true && okC _ 0 && okC _ 1)) = _
    rfl
  have e0 : okC [97, lB l i] 0 = true := rfl
  have e1 : okC [97, lB l i] 1 = okC l i := by
    unfold okC
    have : lB [97, lB l i] 1 = lB l i := rfl
    rw [this, decide_eq_true h]; rfl
  rw [e, e0, e1]; rfl
theorem okC_first (l : List UInt8) (h : l ≠ []) : okC l 0 = isN (l.take 1) := by
  obtain ⟨a, r, rfl⟩ := List.exists_cons_of_ne_nil h
  show _ = isN [a]
  unfold isN
  show _ = (lenN 1 && (true && okC [a] 0))
  rfl
theorem ok2_first (b : UInt8) : chN b = true → isN [97, b] = true := fun h => by
  unfold isN
  show (lenN 2 && (true && okC [97, b] 0 && okC [97, b] 1)) = true
  have e1 : okC [97, b] 1 = true := by
    unfold okC
    show (chN b || _) = true
    rw [h]; rfl
  rw [e1]; rfl
/-- What NameParts works out. -/
def partN (l : List UInt8) : Nat → Bool
  | 0 => lenN l.length
  | k + 1 => partN l k && isN [97, lB l k]
theorem part_all (l : List UInt8) : ∀ k, partN l k = true ↔ lenN l.length = true ∧ ∀ i, i < k → isN [97, lB l i] = true
  | 0 => by simp [partN]
  | k + 1 => by
    rw [partN, Bool.and_eq_true, part_all l k]
    constructor
    · rintro ⟨⟨h0, h1⟩, h2⟩
      refine ⟨h0, fun i hi => ?_⟩
      rcases Nat.lt_or_ge i k with h | h
      · exact h1 i h
      · obtain rfl : i = k := by omega
        exact h2
    · rintro ⟨h0, h⟩
      exact ⟨⟨h0, fun i hi => h i (by omega)⟩, h k (by omega)⟩
theorem part_is (l : List UInt8) (k : Nat) (hk : k ≤ l.length) (h40 : k = l.length ∨ 40 ≤ k) : isN l = (partN l k && (bif decide (0 < l.length) then isN (l.take 1) else true)) := by
  have key : isN l = true ↔ (partN l k && (bif decide (0 < l.length) then isN (l.take 1) else true)) = true := by
    rw [Bool.and_eq_true, part_all]
    have hI : isN l = (lenN l.length && okN l l.length) := rfl
    rw [hI, Bool.and_eq_true, okN_all]
    constructor
    · rintro ⟨h0, h⟩
      have hl : 1 ≤ l.length ∧ l.length ≤ 24 := by unfold lenN at h0; simpa using h0
      have hne : l ≠ [] := by rintro rfl; simp at hl
      obtain rfl : k = l.length := by omega
      refine ⟨⟨h0, fun i hi => ?_⟩, ?_⟩
      · rcases Nat.eq_zero_or_pos i with rfl | hp
        · have h1 := h 0 (by omega)
          unfold okC at h1
          rw [show decide (0 < 0) = false from rfl, Bool.false_and, Bool.or_false] at h1
          exact ok2_first _ h1
        · rw [← okC_behind l i hp]; exact h i hi
      · rw [decide_eq_true (by omega : 0 < l.length)]
        show isN (l.take 1) = true
        rw [← okC_first l hne]; exact h 0 (by omega)
    · rintro ⟨⟨h0, h⟩, h1⟩
      have hl : 1 ≤ l.length ∧ l.length ≤ 24 := by unfold lenN at h0; simpa using h0
      have hne : l ≠ [] := by rintro rfl; simp at hl
      obtain rfl : k = l.length := by omega
      refine ⟨h0, fun i hi => ?_⟩
      rcases Nat.eq_zero_or_pos i with rfl | hp
      · rw [decide_eq_true (by omega : 0 < l.length)] at h1
        rw [okC_first l hne]; exact h1
      · rw [okC_behind l i hp]; exact h i hi
  cases e1 : isN l <;> cases e2 : (partN l k && (bif decide (0 < l.length) then isN (l.take 1) else true)) <;> simp_all
/-! The order of texts -/
def cmpL : List UInt8 → List UInt8 → Int
  | [], [] => 0
  | [], _ :: _ => -1
  | _ :: _, [] => 1
  | a :: l, b :: m => if a = b then cmpL l m else if a.toNat < b.toNat then -1 else 1
theorem cmp_self : ∀ l, cmpL l l = 0
  | [] => rfl
  | a :: l => by rw [cmpL, if_pos rfl]; exact cmp_self l
theorem cmp_eq : ∀ l m, cmpL l m = 0 ↔ l = m
  | [], [] => by simp [cmpL]
  | [], _ :: _ => by simp [cmpL]
  | _ :: _, [] => by simp [cmpL]
  | a :: l, b :: m => by
    rw [cmpL]
    by_cases h : a = b
    · rw [if_pos h, cmp_eq l m]; simp [h]
    · rw [if_neg h]
      split <;> simp [h]
theorem cmp_swap : ∀ l m, cmpL l m = - cmpL m l
  | [], [] => rfl
  | [], _ :: _ => rfl
  | _ :: _, [] => rfl
  | a :: l, b :: m => by
    rw [cmpL, cmpL]
    by_cases h : a = b
    · rw [if_pos h, if_pos h.symm]; exact cmp_swap l m
    · have hn : a.toNat ≠ b.toNat := fun e => h (UInt8.toNat_inj.1 e)
      have h' : ¬ b = a := fun e => h e.symm
      rw [if_neg h, if_neg h']
      by_cases h2 : a.toNat < b.toNat
      · have h3 : ¬ b.toNat < a.toNat := by omega
        rw [if_pos h2, if_neg h3]
      · have h3 : b.toNat < a.toNat := by omega
        rw [if_neg h2, if_pos h3]; rfl
theorem cmp_three : ∀ l m, cmpL l m = -1 ∨ cmpL l m = 0 ∨ cmpL l m = 1
  | [], [] => by simp [cmpL]
  | [], _ :: _ => by simp [cmpL]
  | _ :: _, [] => by simp [cmpL]
  | a :: l, b :: m => by
    rw [cmpL]
    split
    · exact cmp_three l m
    · split <;> simp
theorem cmp_trans : ∀ l m n, cmpL l m < 0 → cmpL m n < 0 → cmpL l n < 0
  | [], _, [], h, k => by
    rename_i m
    cases m with
    | nil => simp [cmpL] at h
    | cons b m => simp [cmpL] at k
  | [], _, _ :: _, _, _ => by simp [cmpL]
  | _ :: _, [], _, h, _ => by simp [cmpL] at h
  | _ :: _, _ :: _, [], _, k => by simp [cmpL] at k
  | a :: l, b :: m, c :: n, h, k => by
    rw [cmpL] at h k ⊢
    by_cases e1 : a = b
    · subst e1
      rw [if_pos rfl] at h
      by_cases e2 : a = c
      · subst e2
        rw [if_pos rfl] at k ⊢
        exact cmp_trans l m n h k
      · rw [if_neg e2] at k ⊢; exact k
    · rw [if_neg e1] at h
      have h1 : a.toNat < b.toNat := by
        by_cases q : a.toNat < b.toNat
        · exact q
        · rw [if_neg q] at h; omega
      by_cases e2 : b = c
      · subst e2
        rw [if_neg e1, if_pos h1]; omega
      · rw [if_neg e2] at k
        have h2 : b.toNat < c.toNat := by
          by_cases q : b.toNat < c.toNat
          · exact q
          · rw [if_neg q] at k; omega
        have e3 : a ≠ c := by rintro rfl; omega
        rw [if_neg e3, if_pos (by omega)]; omega
theorem cmp_app : ∀ l m, cmpL l (l ++ m) = if m = [] then 0 else -1
  | [], [] => rfl
  | [], _ :: _ => rfl
  | a :: l, m => by rw [List.cons_append, cmpL, if_pos rfl]; exact cmp_app l m
/-- Where the texts go on alike up to k. -/
theorem cmp_drop (l m : List UInt8) (k : Nat) (hl : k < l.length) (hm : k < m.length) : cmpL (l.drop k) (m.drop k) = if lB l k = lB m k then cmpL (l.drop (k + 1)) (m.drop (k + 1)) else if (lB l k).toNat < (lB m k).toNat then -1 else 1 := by
  have e1 : l.drop k = lB l k :: l.drop (k + 1) := by
    rw [List.drop_eq_getElem_cons hl]; unfold lB; rw [List.getElem?_eq_getElem hl]; rfl
  have e2 : m.drop k = lB m k :: m.drop (k + 1) := by
    rw [List.drop_eq_getElem_cons hm]; unfold lB; rw [List.getElem?_eq_getElem hm]; rfl
  rw [e1, e2]; rfl
theorem cmp_end (l m : List UInt8) (k : Nat) (h : k = l.length ∨ k = m.length) (hl : k ≤ l.length) (hm : k ≤ m.length) : cmpL (l.drop k) (m.drop k) = if l.length < m.length then -1 else if m.length < l.length then 1 else 0 := by
  rcases h with rfl | rfl
  · rw [List.drop_length]
    by_cases h2 : l.length = m.length
    · rw [h2, List.drop_length]; simp [cmpL]
    · rw [if_pos (by omega), List.drop_eq_getElem_cons (by omega)]; rfl
  · rw [List.drop_length]
    by_cases h2 : l.length = m.length
    · rw [← h2, List.drop_length]; simp [cmpL]
    · rw [if_neg (by omega), if_pos (by omega), List.drop_eq_getElem_cons (by omega)]; rfl
end Go.Proofs.YtiokdcffpnjkcaaDoor
namespace Go.Proofs.YtiokdcffpnjkcaaDoor
open Go.RowKit

/-! Runes, tokens and quoted texts by definition, over lists of bytes -/
def isC (b : UInt8) : Bool := decide (128 ≤ b.toNat ∧ b.toNat ≤ 191)
/-- The number that a first part v0 and k bytes that go on make. -/
def cvR (l : List UInt8) (v0 : Nat) : Nat → Option Nat
  | 0 => some v0
  | k + 1 => match cvR l v0 k with
    | none => none
    | some v => if isC (lB l (k + 1)) = true then some (64 * v + (lB l (k + 1)).toNat - 128) else none
def leastR (n : Nat) : Nat := if n = 2 then 128 else if n = 3 then 2048 else 65536
def okR (n v : Nat) : Bool := decide (leastR n ≤ v ∧ v ≤ 1114111 ∧ ¬ (55296 ≤ v ∧ v ≤ 57343))
def rnN (l : List UInt8) (n v0 : Nat) : Nat × Nat := if l.length < n then (0, 0) else
  match cvR l v0 (n - 1) with
  | none => (0, 0)
  | some v => if okR n v = true then (v, n) else (0, 0)
/-- The rune at the front, and how many bytes it has. -/
def rn (l : List UInt8) : Nat × Nat :=
  if l.length = 0 then (0, 0) else
  if (lB l 0).toNat < 128 then ((lB l 0).toNat, 1) else
  if 192 ≤ (lB l 0).toNat ∧ (lB l 0).toNat < 224 then rnN l 2 ((lB l 0).toNat - 192) else
  if 224 ≤ (lB l 0).toNat ∧ (lB l 0).toNat < 240 then rnN l 3 ((lB l 0).toNat - 224) else
  if 240 ≤ (lB l 0).toNat ∧ (lB l 0).toNat < 248 then rnN l 4 ((lB l 0).toNat - 240) else (0, 0)
def u8 (n : Nat) : UInt8 := UInt8.ofNat n
/-- A rune's bytes. -/
def enc (v : Nat) : List UInt8 :=
  if v < 128 then [u8 v] else
  if v < 2048 then [u8 (192 + v / 64), u8 (128 + v % 64)] else
  if v < 65536 then [u8 (224 + v / 4096), u8 (128 + v / 64 % 64), u8 (128 + v % 64)] else
  [u8 (240 + v / 262144), u8 (128 + v / 4096 % 64), u8 (128 + v / 64 % 64), u8 (128 + v % 64)]
/-- A digit of base sixteen; -1: none. -/
def hexV (b : UInt8) : Int :=
  if 48 ≤ b.toNat ∧ b.toNat ≤ 57 then (b.toNat : Int) - 48 else
  if 97 ≤ b.toNat ∧ b.toNat ≤ 102 then (b.toNat : Int) - 97 + 10 else
  if 65 ≤ b.toNat ∧ b.toNat ≤ 70 then (b.toNat : Int) - 65 + 10 else -1
theorem hexV_range (b : UInt8) : -1 ≤ hexV b ∧ hexV b ≤ 15 := by
  unfold hexV
  split
  · omega
  · split
    · omega
    · split <;> omega
/-- The number of k digits from 2 on; none, if one is no digit. -/
def hx (l : List UInt8) : Nat → Option Nat
  | 0 => some 0
  | k + 1 => match hx l k with
    | none => none
    | some v => if hexV (lB l (2 + k)) < 0 then none else some (16 * v + (hexV (lB l (2 + k))).toNat)
def escSigns : List UInt8 := [34, 92, 47, 98, 102, 110, 114, 116]
def escMeans : List UInt8 := [34, 92, 47, 8, 12, 10, 13, 9]
/-- Is b the i-th sign, of those from i on? -/
def escAt (b : UInt8) : Nat → Nat → Option Nat
  | 0, _ => none
  | k + 1, i => if b = lB escSigns i then some i else escAt b k (i + 1)
def escU (l : List UInt8) : List UInt8 × Nat :=
  if l.length < 6 ∨ lB l 1 ≠ 117 then ([], 0) else
  match hx l 4 with
  | none => ([], 0)
  | some v => if 55296 ≤ v ∧ v ≤ 57343 then ([], 0) else (enc v, 6)
def escS (l : List UInt8) : List UInt8 × Nat :=
  if 1 < l.length then
    match escAt (lB l 1) 8 0 with
    | some i => ([lB escMeans i], 2)
    | none => escU l
  else escU l
/-- A piece of a string's content: what it means, how many bytes it has. -/
def piece (l : List UInt8) : List UInt8 × Nat :=
  if lB l 0 = 92 then escS l else if (rn l).1 < 32 then (l.take (rn l).2, 0) else (l.take (rn l).2, (rn l).2)
def txt (l : List UInt8) : Nat → Nat → List UInt8 → List UInt8 × Nat
  | 0, _, _ => ([], 0)
  | f + 1, k, out => if k < l.length then
      (if lB l k = 34 then (out, k + 1) else if (piece (l.drop k)).2 = 0 then ([], 0) else txt l f (k + (piece (l.drop k)).2) (out ++ (piece (l.drop k)).1))
    else ([], 0)
def inW (b : UInt8) : Bool := decide (97 ≤ b.toNat ∧ b.toNat ≤ 122) || decide (65 ≤ b.toNat ∧ b.toNat ≤ 90) || decide (48 ≤ b.toNat ∧ b.toNat ≤ 57) || decide (b.toNat = 95) || decide (b.toNat = 43) || decide (b.toNat = 45) || decide (b.toNat = 46)
def wl : List UInt8 → Nat
  | [] => 0
  | b :: l => if inW b = true then wl l + 1 else 0
/-- The number of the first k bytes; none, if one is no digit. -/
def nmV (l : List UInt8) : Nat → Option Nat
  | 0 => some 0
  | k + 1 => match nmV l k with
    | none => none
    | some v => if (lB l k).toNat < 48 ∨ 57 < (lB l k).toNat then none else some (10 * v + (lB l k).toNat - 48)
def numW (l : List UInt8) : Int :=
  if l.length = 0 ∨ 19 < l.length ∨ (1 < l.length ∧ lB l 0 = 48) then -1 else
  match nmV l l.length with
  | none => -1
  | some v => if 9223372036854775807 < v then -1 else (v : Int)
/-- Tokens. -/
structure Tk where
  kind : Int
  at_ : Int
  n : Int
  text : List UInt8
def tkZ : Tk := ⟨0, 0, 0, []⟩
def sgns : List UInt8 := [123, 125, 91, 93, 58, 44]
def sgnAt (b : UInt8) : Nat → Nat → Option Nat
  | 0, _ => none
  | k + 1, i => if b = lB sgns i then some i else sgnAt b k (i + 1)
def wdNull : List UInt8 := [110, 117, 108, 108]
def wdTrue : List UInt8 := [116, 114, 117, 101]
def wdFalse : List UInt8 := [102, 97, 108, 115, 101]
def wordTk (w : List UInt8) (n : Nat) : Tk × Nat :=
  if w = wdNull then (⟨7, 0, 0, []⟩, n) else if w = wdTrue then (⟨8, 0, 0, []⟩, n) else if w = wdFalse then (⟨9, 0, 0, []⟩, n) else
  if numW w < 0 then (tkZ, 0) else (⟨10, 0, numW w, []⟩, n)
def oneTk (l : List UInt8) : Tk × Nat :=
  match sgnAt (lB l 0) 6 0 with
  | some i => (⟨(i : Int) + 1, 0, 0, []⟩, 1)
  | none => if lB l 0 = 34 then (⟨11, 0, 0, (txt l l.length 1 []).1⟩, (txt l l.length 1 []).2) else wordTk (l.take (wl l)) (wl l)
def blk (b : UInt8) : Bool := decide (b = 32 ∨ b = 9 ∨ b = 10 ∨ b = 13)
/-- All tokens from k on; with none, where. -/
def cutF (l : List UInt8) : Nat → Nat → List Tk → Option (List Tk) × Nat
  | 0, k, _ => (none, k)
  | f + 1, k, out => if k < l.length then
      (if blk (lB l k) = true then cutF l f (k + 1) out
       else if (oneTk (l.drop k)).2 = 0 then (none, k)
       else cutF l f (k + (oneTk (l.drop k)).2) (out ++ [{ (oneTk (l.drop k)).1 with at_ := (k : Int) }]))
    else (some out, 0)
def cutA (l : List UInt8) : Option (List Tk) × Nat := cutF l (l.length + 1) 0 []
def cutL (l : List UInt8) : List Tk := if 4096 < l.length then [] else (cutA l).1.getD []
def cutE (l : List UInt8) : Int := if 4096 < l.length then 2 else if (cutA l).1.isNone then 30 else 0
def cutP (l : List UInt8) : Int := if 4096 < l.length then 0 else ((cutA l).2 : Int)
/-- A rune in a string. -/
def qRunes : List Nat := [34, 92, 8, 12, 10, 13, 9]
def qSigns : List UInt8 := [34, 92, 98, 102, 110, 114, 116]
def qAt (v : Nat) : Nat → Nat → Option Nat
  | 0, _ => none
  | k + 1, i => if v = qRunes.getD i 0 then some i else qAt v k (i + 1)
def dgC (n : Nat) : UInt8 := if n < 10 then u8 (48 + n) else u8 (87 + n)
def quo (v : Nat) : List UInt8 :=
  match qAt v 7 0 with
  | some i => [92, lB qSigns i]
  | none => if v < 32 then [92, 117, 48, 48, dgC (v / 16), dgC (v % 16)] else enc v
def quF (l : List UInt8) : Nat → Nat → List UInt8 → Option (List UInt8)
  | 0, _, _ => none
  | f + 1, k, out => if k < l.length then
      (if (rn (l.drop k)).2 = 0 then none else quF l f (k + (rn (l.drop k)).2) (out ++ quo (rn (l.drop k)).1))
    else some (out ++ [34])
def quA (l : List UInt8) : Option (List UInt8) := quF l (l.length + 1) 0 [34]
def quS (l : List UInt8) : List UInt8 := (quA l).getD []
def quE (l : List UInt8) : Int := if (quA l).isNone then 30 else 0
end Go.Proofs.YtiokdcffpnjkcaaDoor
namespace Go.Proofs.YtiokdcffpnjkcaaDoor
open Go.RowKit

/-! A sector as a function from places to bytes, its cells, and the model's operations on whole sectors. -/

def secA (s : Nat → UInt8) : Array Value := Array.ofFn (n := 64) fun i => Value.int .u8 ((s i).toNat : Int)
def secZ : Nat → UInt8 := fun _ => 0
def secEq (s t : Nat → UInt8) : Bool := (List.range 64).all fun i => s i == t i

@[simp, go_sem] theorem secA_size (s : Nat → UInt8) : (secA s).size = 64 := by simp [secA]
theorem secA_get (s : Nat → UInt8) (i : Nat) (h : i < 64) : (secA s)[i]? = some (Value.int .u8 ((s i).toNat : Int)) := by simp [secA, h]
@[simp, go_sem] theorem secA_getElem (s : Nat → UInt8) (i : Nat) (h : i < (secA s).size) : (secA s)[i] = Value.int .u8 ((s i).toNat : Int) := by simp [secA]
theorem secEq_iff (s t : Nat → UInt8) : secEq s t = true ↔ ∀ i, i < 64 → s i = t i := by simp [secEq]
theorem secA_inj (s t : Nat → UInt8) : secA s = secA t ↔ ∀ i, i < 64 → s i = t i := by
  constructor
  · intro h i hi
    have := congrArg (fun c => c[i]?) h
    simp only [secA_get s i hi, secA_get t i hi, Option.some.injEq, Value.int.injEq, true_and] at this
    exact UInt8.toNat_inj.1 (by omega)
  · intro h
    apply Array.ext_getElem?
    intro i
    by_cases hi : i < 64
    · rw [secA_get s i hi, secA_get t i hi, h i hi]
    · rw [Array.getElem?_eq_none (by simp; omega), Array.getElem?_eq_none (by simp; omega)]
theorem secA_one (s : Nat → UInt8) : (secA s).all (·.oneCell') = true := by
  rw [Array.all_eq_true_iff_forall_mem]
  intro v hv
  simp only [secA, Array.mem_ofFn] at hv
  obtain ⟨i, rfl⟩ := hv
  rfl
theorem secA_set (s : Nat → UInt8) (i : Nat) (b : UInt8) (h : i < 64) : (secA s).setIfInBounds i (Value.int .u8 (b.toNat : Int)) = secA (upd s i b) := by
  apply Array.ext_getElem?
  intro j
  by_cases hj : j < 64
  · rw [secA_get _ j hj]
    by_cases e : i = j
    · subst e; simp [upd, h]
    · rw [Array.getElem?_setIfInBounds_ne e, secA_get s j hj]; simp [upd, Ne.symm e]
  · rw [Array.getElem?_eq_none (by simp; omega), Array.getElem?_eq_none (by simp; omega)]
theorem secA_of (c : Array Value) (hs : c.size = 64) (h : ∀ i, i < 64 → ∃ x : Int, c[i]? = some (Value.int .u8 x) ∧ 0 ≤ x ∧ x ≤ 255) : ∃ s, c = secA s := by
  refine ⟨fun i => match c[i]? with | some (Value.int _ x) => UInt8.ofNat x.toNat | _ => 0, ?_⟩
  apply Array.ext_getElem?
  intro i
  by_cases hi : i < 64
  · obtain ⟨x, hx, h0, h1⟩ := h i hi
    rw [secA_get _ i hi, hx]
    simp only [UInt8.toNat_ofNat', Option.some.injEq, Value.int.injEq, true_and]
    omega
  · rw [Array.getElem?_eq_none (by omega), Array.getElem?_eq_none (by simp; omega)]

/-- The cells of a block; is it a row of 64 that may be written? -/
def rowAt (w : World) (n : Nat) : Array Value := match w.heap[n]? with | some (.cells c _ _) => c | _ => #[]
def rowOk (w : World) (n : Nat) : Bool := match w.heap[n]? with | some (.cells c _ fr) => c.size == 64 && fr == (0, 0) | _ => false
@[go_sem] theorem rowAt_drew (w : World) (n : Nat) : rowAt w.drew n = rowAt w n := rfl
@[go_sem] theorem rowOk_drew (w : World) (n : Nat) : rowOk w.drew n = rowOk w n := rfl
@[go_sem] theorem setRow_drew' (w : World) (n : Nat) (c : Array Value) : w.drew.setRow n c = (w.setRow n c).drew := rfl
@[go_sem] theorem rowAt_new (w : World) (n : Nat) (c : Array Value) (t : TypeId) (h : n = w.heap.size) : rowAt (w.alloc (.cells c t)) n = c := by
  subst h; unfold rowAt; rw [heap_alloc_last]
@[go_sem] theorem rowOk_new (w : World) (n : Nat) (c : Array Value) (t : TypeId) (h : n = w.heap.size) (hc : c.size = 64) : rowOk (w.alloc (.cells c t)) n = true := by
  subst h; unfold rowOk; rw [heap_alloc_last]; simp [hc]
@[go_sem] theorem rowAt_old (w : World) (n : Nat) (o : Obj) (h : n < w.heap.size) : rowAt (w.alloc o) n = rowAt w n := by
  unfold rowAt; rw [Below.heap_alloc w o n h]
@[go_sem] theorem rowOk_old (w : World) (n : Nat) (o : Obj) (h : n < w.heap.size) : rowOk (w.alloc o) n = rowOk w n := by
  unfold rowOk; rw [Below.heap_alloc w o n h]
@[go_sem] theorem setRow_new (w : World) (n : Nat) (c c' : Array Value) (t : TypeId) (h : n = w.heap.size) : (w.alloc (.cells c t)).setRow n c' = w.alloc (.cells c' t) := by
  subst h; exact World.setRow_alloc_new w c c' t
@[go_sem] theorem setRow_old (w : World) (n : Nat) (c' : Array Value) (o : Obj) (h : n < w.heap.size) : (w.alloc o).setRow n c' = (w.setRow n c').alloc o := by
  simp only [World.setRow, World.alloc]
  congr 1
  apply Array.ext_getElem?
  intro i
  rw [Array.getElem?_modify]
  simp only [Array.getElem?_push, Array.size_modify, Array.getElem?_modify]
  by_cases h1 : n = i
  · subst h1
    have : ¬ n = w.heap.size := by omega
    simp [this]
  · simp [h1]
theorem row_of_ok {w : World} {n : Nat} (h : rowOk w n = true) : ∃ t, w.heap[n]? = some (.cells (rowAt w n) t (0, 0)) ∧ (rowAt w n).size = 64 := by
  unfold rowOk at h
  unfold rowAt
  cases hq : w.heap[n]? with
  | none => simp [hq] at h
  | some o =>
    cases o with
    | cells c t fr =>
      simp [hq] at h
      obtain ⟨h1, h2⟩ := h
      subst h2
      exact ⟨t, rfl, h1⟩
    | _ => simp [hq] at h

@[go_sem] theorem rowAt_setRow_same (w : World) (n : Nat) (c : Array Value) (h : rowOk w n = true) : rowAt (w.setRow n c) n = c := by
  obtain ⟨t, hg, _⟩ := row_of_ok h
  unfold rowAt; rw [setRow_heap w n _ c t _ hg]
@[go_sem] theorem rowOk_setRow_same (w : World) (n : Nat) (c : Array Value) (h : rowOk w n = true) (hc : c.size = 64) : rowOk (w.setRow n c) n = true := by
  obtain ⟨t, hg, _⟩ := row_of_ok h
  unfold rowOk; rw [setRow_heap w n _ c t _ hg]; simp [hc]
theorem rowAt_setRow_other (w : World) (n m : Nat) (c : Array Value) (h : n ≠ m) : rowAt (w.setRow m c) n = rowAt w n := by
  unfold rowAt; rw [setRow_other w m n c h]
theorem rowOk_setRow_other (w : World) (n m : Nat) (c : Array Value) (h : n ≠ m) : rowOk (w.setRow m c) n = rowOk w n := by
  unfold rowOk; rw [setRow_other w m n c h]
/-- Behind a call that has turned nothing old: the old rows are as they were. -/
theorem rows_below {B : Nat} {W w1 : World} (hb : Below B W w1) : (∀ n, n < B → rowOk w1 n = rowOk W n) ∧ (∀ n, n < B → rowAt w1 n = rowAt W n) :=
  ⟨fun n h => by unfold rowOk; rw [hb.block n h], fun n h => by unfold rowAt; rw [hb.block n h]⟩
theorem after {W w1 : World} (hb : Below W.heap.size W w1) : (∀ n, n < W.heap.size → rowOk w1 n = rowOk W n) ∧ (∀ n, n < W.heap.size → rowAt w1 n = rowAt W n) ∧
    (∀ b o, b < W.heap.size → w1.cell? ⟨b, o, none⟩ = W.cell? ⟨b, o, none⟩) ∧ (∀ b o, b < W.heap.size → w1.frozen? ⟨b, o, none⟩ = W.frozen? ⟨b, o, none⟩) ∧ W.heap.size ≤ w1.heap.size :=
  ⟨(rows_below hb).1, (rows_below hb).2, fun b o h => hb.cell (p := ⟨b, o, none⟩) h, fun b o h => hb.frozen (p := ⟨b, o, none⟩) h, hb.size⟩
theorem keepRow {B n : Nat} {W w1 : World} {c : Array Value} (hb : Below B W w1) (h : n < B) (hk : rowOk W n = true) (hc : rowAt W n = c) : rowOk w1 n = true ∧ rowAt w1 n = c :=
  ⟨by rw [(rows_below hb).1 n h]; exact hk, by rw [(rows_below hb).2 n h]; exact hc⟩
theorem below_row {B n : Nat} {w0 w : World} (hb : Below B w0 w) (h : B ≤ n) (c : Array Value) : Below B w0 (w.setRow n c) :=
  ⟨hb.os, hb.tape, hb.output, by simpa using hb.size, fun k hk => by rw [setRow_other w n k c (by omega)]; exact hb.block k hk⟩

theorem cell_rowAt {w : World} {n : Nat} (h : rowOk w n = true) (i : Nat) : w.cell? ⟨n, i, none⟩ = (rowAt w n)[i]? := by
  obtain ⟨t, hg, _⟩ := row_of_ok h
  exact cell_of_row w n i _ t _ hg
theorem lt_of_rowOk {w : World} {n : Nat} (h : rowOk w n = true) : n < w.heap.size := by
  obtain ⟨t, hg, _⟩ := row_of_ok h
  exact (Array.getElem?_eq_some_iff.1 hg).1
/-- Nothing below B has turned, and the row k, not below B, holds s. -/
def Held (B k : Nat) (W : World) (s : Nat → UInt8) (w : World) : Prop := B ≤ k ∧ Below B W w ∧ rowOk w k = true ∧ rowAt w k = secA s
theorem Held.below {B k : Nat} {W w w1 : World} {s : Nat → UInt8} (h : Held B k W s w) (hb : Below w.heap.size w w1) : Held B k W s w1 := by
  obtain ⟨h0, h1, h2, h3⟩ := h
  have h9 := lt_of_rowOk h2
  obtain ⟨h4, h5⟩ := keepRow hb h9 h2 h3
  exact ⟨h0, h1.trans (hb.mono (by omega)), h4, h5⟩
theorem Held.drew {B k : Nat} {W w : World} {s : Nat → UInt8} (h : Held B k W s w) : Held B k W s w.drew := ⟨h.1, h.2.1.drew, h.2.2.1, h.2.2.2⟩
theorem Held.cell {B k : Nat} {W w : World} {s : Nat → UInt8} (h : Held B k W s w) (i : Nat) (hi : i < 64) : w.cell? ⟨k, i, none⟩ = some (Value.int .u8 ((s i).toNat : Int)) := by
  rw [cell_rowAt h.2.2.1, h.2.2.2, secA_get s i hi]
theorem Held.start (w : World) (s : Nat → UInt8) (t : TypeId) : Held w.heap.size w.heap.size w s (w.alloc (.cells (secA s) t)) :=
  ⟨Nat.le_refl _, (Below.refl _ _).alloc (Nat.le_refl _) _, rowOk_new _ _ _ _ rfl (secA_size _), rowAt_new _ _ _ _ rfl⟩

theorem sizeE (w : World) : (sizeOf 5).run Tryd.prog w = .ok 1 w := by kernel_rfl

section
variable (ρ : Operand → Value) (dst : Option Tmp) (ty ty' : TypeId) (pos : String) (after : Array Edge) (guard : Option (Nat × Bool))
end
theorem secA_cells (s : Nat → UInt8) : secA s = (((List.range 64).map s).map Extern.Stop.cell).toArray := by
  apply Array.ext_getElem?
  intro i
  by_cases hi : i < 64
  · rw [secA_get s i hi]; simp [hi, Extern.Stop.cell]
  · rw [Array.getElem?_eq_none (by simp; omega), Array.getElem?_eq_none (by simp; omega)]
theorem beq_secL (s t : Nat → UInt8) : (((List.range 64).map s) == ((List.range 64).map t)) = secEq s t := by
  rw [Bool.eq_iff_iff, secEq_iff, beq_iff_eq]
  constructor
  · intro h i hi
    have := congrArg (fun l => l[i]?) h
    simpa [hi] using this
  · intro h
    exact List.map_congr_left fun i hi => h i (by simpa using hi)
/-- One row's bytes laid into another's. -/
theorem secA_blit (s t : Nat → UInt8) (o p m : Nat) (h : o + m ≤ 64) (h' : p + m ≤ 64) :
    ((secA s).toList.take o ++ ((secA t).toList.drop p).take m ++ (secA s).toList.drop (o + m)).toArray = secA (blit s o t p m) := by
  apply Array.ext_getElem?
  intro i
  by_cases hi : i < 64
  · rw [secA_get _ i hi]
    have hs : (secA s).toList.length = 64 := by simp
    have ht : (secA t).toList.length = 64 := by simp
    simp only [List.getElem?_toArray, List.append_assoc]
    by_cases h1 : i < o
    · rw [List.getElem?_append_left (by simp; omega), List.getElem?_take, if_pos h1, Array.getElem?_toList, secA_get s i hi]
      unfold blit; rw [if_neg (by omega)]
    · rw [List.getElem?_append_right (by simp; omega)]
      have e1 : (List.take o (secA s).toList).length = o := by simp; omega
      rw [e1]
      by_cases h2 : i < o + m
      · rw [List.getElem?_append_left (by simp; omega), List.getElem?_take, if_pos (by omega), List.getElem?_drop, Array.getElem?_toList, secA_get t _ (by omega)]
        unfold blit; rw [if_pos (by omega)]
      · have e2 : (List.take m (List.drop p (secA t).toList)).length = m := by simp; omega
        rw [List.getElem?_append_right (by omega), e2, List.getElem?_drop, Array.getElem?_toList, show o + m + (i - o - m) = i by omega, secA_get s i hi]
        unfold blit; rw [if_neg (by omega)]
  · rw [Array.getElem?_eq_none (by simp; omega), Array.getElem?_eq_none (by simp; omega)]
theorem run_copy_sec (w : World) (g o b p dl dc sl sc : Nat) (ty : TypeId) (s t : Nat → UInt8) (hg : rowOk w g = true) (hb : rowOk w b = true) (es : rowAt w g = secA s) (et : rowAt w b = secA t)
    (m : Nat) (hm : m = Nat.min sl dl) (h : o + m ≤ 64) (h' : p + m ≤ 64) :
    (Builtin.copy_ #[29, 29] ty #[.slice (some ⟨g, o, none⟩) dl dc, .slice (some ⟨b, p, none⟩) sl sc]).run Tryd.prog w = .ok (goInt m) (w.setRow g (secA (blit s o t p m))) := by
  obtain ⟨tg, hg', _⟩ := row_of_ok hg
  obtain ⟨tb, hb', _⟩ := row_of_ok hb
  rw [es] at hg'; rw [et] at hb'
  have hl : (((secA t).toList.drop p).take m).length = m := by simp; omega
  have hadd : ∀ j, (⟨b, p, none⟩ : Addr).add j = ⟨b, p + j, none⟩ := fun j => by unfold Addr.add; split <;> simp_all
  have := run_copy_row (P := Tryd.prog) w 29 29 ty 5 g o dl dc ⟨b, p, none⟩ sl sc (secA s) tg (((secA t).toList.drop p).take m) Tryd.underlying29 (by kernel_rfl) hg' (by rw [hl, hm])
    (fun j v hv => by
      rw [hadd, cell_of_row w b (p + j) _ tb _ hb']
      rw [List.getElem?_take] at hv
      split at hv
      · rwa [List.getElem?_drop, Array.getElem?_toList] at hv
      · cases hv) (by rw [hl]; simpa using h) (fun v hv => by
      have := Array.all_eq_true_iff_forall_mem.1 (secA_one t) v (by
        have := List.mem_of_mem_drop (List.mem_of_mem_take hv)
        simpa using this)
      exact this)
  rw [this, hl, secA_blit s t o p m h h']

theorem heap_setCell (w : World) (g i : Nat) (v : Value) (c : Array Value) (t : TypeId) (fr : Nat × Nat) (h : w.heap[g]? = some (.cells c t fr)) : (w.setCell ⟨g, i, none⟩ v).heap[g]? = some (.cells (c.setIfInBounds i v) t fr) := by
  unfold World.setCell
  rw [Array.getElem?_modify, if_pos rfl, h]
  rfl
theorem below_alloc (w : World) (o : Obj) : Below w.heap.size w (w.alloc o) := (Below.refl _ _).alloc (Nat.le_refl _) _
theorem heap_new (w : World) (o : Obj) : (w.alloc o).heap[w.heap.size]? = some o := by unfold World.alloc; exact Array.getElem?_push_size
theorem heap_old (w : World) (o : Obj) (n : Nat) (h : n < w.heap.size) : (w.alloc o).heap[n]? = w.heap[n]? := Below.heap_alloc w o n h
end Go.Proofs.YtiokdcffpnjkcaaDoor
namespace Go.Proofs.YtiokdcffpnjkcaaDoor
open Go.RowKit

theorem ret_int {k : IntKind} {a b : Int} (h : a = b) : Ending.returned (.int k a) = .returned (.int k b) := by rw [h]
theorem ret_bool {a b : Bool} (h : a = b) : Ending.returned (.bool a) = .returned (.bool b) := by rw [h]
theorem ret_sec {s t : Nat → UInt8} (h : ∀ i, i < 64 → s i = t i) : Ending.returned (.agg (secA s)) = .returned (.agg (secA t)) := by rw [(secA_inj s t).2 h]

/-! Numbers read -/
/-! Numbers put -/
/-! The calls whose answers the document fixes -/
def secT : Nat → UInt8 := putI secZ 2 513 2
theorem secT_num2 : numI secT 2 2 = 513 := by decide
theorem secT_num4 : numI secT 0 4 = 33619968 := by decide
theorem secT_not : secEq secT secZ = false := by decide
theorem secZ_is : secEq secZ secZ = true := by decide
end Go.Proofs.YtiokdcffpnjkcaaDoor
namespace Go.Proofs.YtiokdcffpnjkcaaDoor
open Go.RowKit

/-! Slices of bytes -/
def bytesA (l : List UInt8) : Array Value := (l.map fun b => Value.int .u8 (b.toNat : Int)).toArray
@[simp, go_sem] theorem bytesA_size (l : List UInt8) : (bytesA l).size = l.length := by simp [bytesA]
theorem bytesA_get (l : List UInt8) (i : Nat) (h : i < l.length) : (bytesA l)[i]? = some (Value.int .u8 (l[i].toNat : Int)) := by simp [bytesA, h]
/-- The value v is a slice whose elements are the bytes l. -/
def IsB (w : World) (v : Value) (l : List UInt8) : Prop :=
  (v = .slice none 0 0 ∧ l = []) ∨ ∃ x c, v = .slice (some x) l.length c ∧ ∀ i (h : i < l.length), w.cell? (x.add i) = some (Value.int .u8 (l[i].toNat : Int))
theorem IsB.len {w : World} {v : Value} {l : List UInt8} (h : IsB w v l) : ∃ x c, v = .slice x l.length c := by
  rcases h with ⟨rfl, rfl⟩ | ⟨x, c, rfl, _⟩
  · exact ⟨none, 0, rfl⟩
  · exact ⟨some x, c, rfl⟩
theorem IsB.lt {w : World} {x : Addr} {n c : Nat} {l : List UInt8} (h : IsB w (.slice (some x) n c) l) (h0 : l ≠ []) : x.block < w.heap.size := by
  rcases h with ⟨h, _⟩ | ⟨y, d, he, hc⟩
  · cases h
  · simp only [Value.slice.injEq, Option.some.injEq] at he
    obtain ⟨rfl, _, _⟩ := he
    have h1 : 0 < l.length := List.length_pos_iff.2 h0
    have := World.block_lt_of_cell? w _ (hc 0 h1)
    have e : (x.add 0).block = x.block := by unfold Addr.add; split <;> rfl
    rwa [e] at this
theorem Addr.add_block (x : Addr) (i : Nat) : (x.add i).block = x.block := by unfold Addr.add; split <;> rfl
theorem IsB.below {B : Nat} {w w1 : World} {v : Value} {l : List UInt8} (h : IsB w v l) (hb : Below B w w1) (hB : ∀ x n c, v = .slice (some x) n c → l ≠ [] → x.block < B) : IsB w1 v l := by
  rcases h with h | ⟨x, c, rfl, hc⟩
  · exact .inl h
  · refine .inr ⟨x, c, rfl, fun i hi => ?_⟩
    have h0 : l ≠ [] := by rintro rfl; simp at hi
    rw [hb.cell (by rw [Addr.add_block]; exact hB x _ _ rfl h0)]
    exact hc i hi
theorem IsB.kept {w w1 : World} {v : Value} {l : List UInt8} (h : IsB w v l) (hb : Below w.heap.size w w1) : IsB w1 v l :=
  h.below hb fun x n c e h0 => by subst e; exact h.lt h0
theorem IsB.drew {w : World} {v : Value} {l : List UInt8} (h : IsB w v l) : IsB w.drew v l := h
/-- 'string(b)' -/
theorem IsB.str {w : World} {v : Value} {l : List UInt8} (h : IsB w v l) : (convert 29 9 v).run Tryd.prog w = .ok (.string ⟨l.toArray⟩) w := by
  rcases h with ⟨rfl, rfl⟩ | ⟨x, c, rfl, hc⟩
  · rw [run_convert_bytes_string w _ _ 5 none 0 0 Tryd.underlying29 Tryd.underlying5 Tryd.underlying9]; rfl
  · exact run_convert_bytes_back w _ _ 5 x c l Tryd.underlying29 Tryd.underlying5 Tryd.underlying9 hc
/-- The sector with the bytes l from a on. -/
def layL (s : Nat → UInt8) (a : Nat) (l : List UInt8) : Nat → UInt8 := fun j => if h : a ≤ j ∧ j < a + l.length then l[j - a]'(by omega) else s j
def layI (s : Nat → UInt8) (a : Int) (l : List UInt8) : Nat → UInt8 := if inB a l.length then layL s a.toNat l else s
theorem layL_nil (s : Nat → UInt8) (a : Nat) : layL s a [] = s := by funext j; unfold layL; rw [dif_neg (by simp)]
theorem secA_lay (s : Nat → UInt8) (o : Nat) (l : List UInt8) (h : o + l.length ≤ 64) :
    ((secA s).toList.take o ++ (bytesA l).toList ++ (secA s).toList.drop (o + l.length)).toArray = secA (layL s o l) := by
  apply Array.ext_getElem?
  intro i
  by_cases hi : i < 64
  · rw [secA_get _ i hi]
    simp only [List.getElem?_toArray, List.append_assoc]
    by_cases h1 : i < o
    · rw [List.getElem?_append_left (by simp; omega), List.getElem?_take, if_pos h1, Array.getElem?_toList, secA_get s i hi]
      unfold layL; rw [dif_neg (by omega)]
    · rw [List.getElem?_append_right (by simp; omega)]
      have e1 : (List.take o (secA s).toList).length = o := by simp; omega
      rw [e1]
      by_cases h2 : i < o + l.length
      · rw [List.getElem?_append_left (by simp; omega), Array.getElem?_toList, bytesA_get l _ (by omega)]
        unfold layL; rw [dif_pos (by omega)]
      · have e2 : (bytesA l).toList.length = l.length := by simp
        rw [List.getElem?_append_right (by omega), e2, List.getElem?_drop, Array.getElem?_toList, show o + l.length + (i - o - l.length) = i by omega, secA_get s i hi]
        unfold layL; rw [dif_neg (by omega)]
  · rw [Array.getElem?_eq_none (by simp; omega), Array.getElem?_eq_none (by simp; omega)]
theorem run_copy_into (w : World) (g o dl dc sc : Nat) (x : Addr) (ty : TypeId) (s : Nat → UInt8) (l : List UInt8) (hg : rowOk w g = true) (es : rowAt w g = secA s)
    (hx : ∀ i (h : i < l.length), w.cell? (x.add i) = some (Value.int .u8 (l[i].toNat : Int))) (hm : l.length ≤ dl) (h : o + l.length ≤ 64) :
    (Builtin.copy_ #[29, 29] ty #[.slice (some ⟨g, o, none⟩) dl dc, .slice (some x) l.length sc]).run Tryd.prog w = .ok (goInt l.length) (w.setRow g (secA (layL s o l))) := by
  obtain ⟨tg, hg', _⟩ := row_of_ok hg
  rw [es] at hg'
  have hl : (bytesA l).toList.length = l.length := by simp
  have := run_copy_row (P := Tryd.prog) w 29 29 ty 5 g o dl dc x l.length sc (secA s) tg (bytesA l).toList Tryd.underlying29 (by kernel_rfl) hg' (by rw [hl]; exact (Nat.min_eq_left hm).symm)
    (fun j v hv => by
      have hj : j < l.length := by have := (List.getElem?_eq_some_iff.1 hv).1; simpa using this
      rw [Array.getElem?_toList, bytesA_get l j hj] at hv
      rw [hx j hj]; exact hv) (by rw [hl]; simpa using h) (fun v hv => by
      simp only [bytesA, List.mem_map] at hv
      obtain ⟨b, _, rfl⟩ := hv
      rfl)
  rw [this, hl, secA_lay s o l h]
/-! Bytes read -/
def subL (s : Nat → UInt8) (a n : Nat) : List UInt8 := (List.range n).map fun i => s (a + i)
@[simp] theorem subL_length (s : Nat → UInt8) (a n : Nat) : (subL s a n).length = n := by simp [subL]
theorem subL_get (s : Nat → UInt8) (a n i : Nat) (h : i < (subL s a n).length) : (subL s a n)[i] = s (a + i) := by simp [subL]
theorem info5 : (Tryd.prog.info? 5).map (fun i => (i.zero, i.size, i.bytes)) = some (some (.int .u8 0), 1, 1) := by kernel_rfl
theorem made_bytes (n : Nat) : madeCells #[Value.int .u8 0] n = bytesA (List.replicate n 0) := by
  apply Array.ext_getElem?
  intro i
  by_cases hi : i < n
  · rw [bytesA_get _ i (by simpa using hi)]; simp [madeCells, hi, Nat.mod_one]
  · rw [Array.getElem?_eq_none (by rw [size_madeCells]; omega), Array.getElem?_eq_none (by simp; omega)]
theorem run_mk (w : World) (n : Nat) (h : n ≤ 281474976710656) : (Instr.makeSlice 29 (.int .i64 (n : Int)) (.int .i64 (n : Int))).run Tryd.prog w =
    .ok (.slice (some ⟨w.heap.size, 0, none⟩) n n) (w.alloc (.cells (bytesA (List.replicate n 0)) 5)) := by
  obtain ⟨i, hi, hzz⟩ := Option.map_eq_some_iff.1 info5
  simp only [Prod.mk.injEq] at hzz
  obtain ⟨hz, hs, hb⟩ := hzz
  have hr := run_make (P := Tryd.prog) w 29 5 i _ Tryd.underlying29 hi hz .i64 .i64 n n (by omega) (by omega) (by rw [hb]; omega) (by omega)
  simp only [Int.toNat_natCast, hs, Nat.mul_one] at hr
  rw [hr, ← made_bytes]; rfl
/-- A block that holds the bytes l. -/
def rowB (w : World) (g : Nat) (l : List UInt8) : Prop := w.heap[g]? = some (.cells (bytesA l) 5 (0, 0))
theorem rowB.cell {w : World} {g : Nat} {l : List UInt8} (h : rowB w g l) (i : Nat) (hi : i < l.length) : w.cell? ⟨g, i, none⟩ = some (Value.int .u8 (l[i].toNat : Int)) := by
  rw [cell_of_row w g i _ _ _ h, bytesA_get l i hi]
theorem rowB.isB {w : World} {g : Nat} {l : List UInt8} (h : rowB w g l) (c : Nat) : IsB w (.slice (some ⟨g, 0, none⟩) l.length c) l :=
  .inr ⟨_, c, rfl, fun i hi => by
    have hadd : (⟨g, 0, none⟩ : Addr).add i = ⟨g, i, none⟩ := by unfold Addr.add; split <;> simp_all
    rw [hadd]; exact h.cell i hi⟩
theorem rowB.lt {w : World} {g : Nat} {l : List UInt8} (h : rowB w g l) : g < w.heap.size := (Array.getElem?_eq_some_iff.1 h).1
theorem rowB.kept {w w1 : World} {g : Nat} {l : List UInt8} (h : rowB w g l) (hb : Below w.heap.size w w1) : rowB w1 g l := by unfold rowB; rw [hb.block g h.lt]; exact h
theorem run_copy_out (w : World) (g b p n dc sc : Nat) (ty : TypeId) (s : Nat → UInt8) (hg : rowB w g (List.replicate n 0)) (hb : rowOk w b = true) (es : rowAt w b = secA s) (h : p + n ≤ 64) :
    (Builtin.copy_ #[29, 29] ty #[.slice (some ⟨g, 0, none⟩) n dc, .slice (some ⟨b, p, none⟩) n sc]).run Tryd.prog w = .ok (goInt n) (w.setRow g (bytesA (subL s p n))) := by
  obtain ⟨tb, hb', _⟩ := row_of_ok hb
  rw [es] at hb'
  have hl : (bytesA (subL s p n)).toList.length = n := by simp
  have hadd : ∀ j, (⟨b, p, none⟩ : Addr).add j = ⟨b, p + j, none⟩ := fun j => by unfold Addr.add; split <;> simp_all
  have := run_copy_row (P := Tryd.prog) w 29 29 ty 5 g 0 n dc ⟨b, p, none⟩ n sc (bytesA (List.replicate n 0)) 5 (bytesA (subL s p n)).toList Tryd.underlying29 (by kernel_rfl) hg (by simp)
    (fun j v hv => by
      have hj : j < (subL s p n).length := by have := (List.getElem?_eq_some_iff.1 hv).1; simpa using this
      rw [Array.getElem?_toList, bytesA_get _ j hj, subL_get] at hv
      rw [hadd, cell_of_row w b (p + j) _ tb _ hb', secA_get s _ (by simp at hj; omega)]; exact hv) (by simp) (fun v hv => by
      simp only [bytesA, List.mem_map] at hv
      obtain ⟨b, _, rfl⟩ := hv
      rfl)
  rw [this, hl, List.drop_of_length_le (by simp)]
  simp
theorem subL_lay (s : Nat → UInt8) (a : Nat) (l : List UInt8) : subL (layL s a l) a l.length = l := by
  apply List.ext_getElem
  · simp
  · intro i h1 h2
    rw [subL_get]; unfold layL; rw [dif_pos (by omega)]; simp

theorem IsB.spot {w : World} {x : Option Addr} {c : Nat} {l : List UInt8} (hv : IsB w (.slice x l.length c) l) (k : Nat) (hk : k < l.length) :
    ∃ b o, x = some ⟨b, o, none⟩ ∧ b < w.heap.size ∧ w.cell? ⟨b, o + k, none⟩ = some (Value.int .u8 ((l[k]?.getD 0).toNat : Int)) := by
  rcases hv with ⟨_, rfl⟩ | ⟨y, d, he, hc⟩
  · simp at hk
  · simp only [Value.slice.injEq, true_and] at he
    obtain ⟨rfl, rfl⟩ := he
    have h9 := hc k hk
    obtain ⟨b, o, sp⟩ := y
    have hsp : sp = none := by simpa [Addr.add] using World.cell?_spot (hc 0 (by omega))
    subst hsp
    have hlt := World.block_lt_of_cell? w _ h9
    have hadd : (⟨b, o, none⟩ : Addr).add k = ⟨b, o + k, none⟩ := by unfold Addr.add; split <;> simp_all
    rw [hadd] at h9 hlt
    exact ⟨b, o, rfl, hlt, by rw [h9]; simp [hk]⟩

theorem addr_add (b o i : Nat) : (⟨b, o, none⟩ : Addr).add i = ⟨b, o + i, none⟩ := by unfold Addr.add; split <;> simp_all
end Go.Proofs.YtiokdcffpnjkcaaDoor
