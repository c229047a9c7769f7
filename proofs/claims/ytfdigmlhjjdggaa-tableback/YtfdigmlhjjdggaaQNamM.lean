import Derived.Test.YtfdigmlhjjdggaaQNum
namespace Go.Proofs.Ytfdigmlhjjdggaa
open Go.RowKit

/-! Names by definition, over lists of bytes -/
def lB (l : List UInt8) (k : Nat) : UInt8 := l[k]?.getD 0
def chN (b : UInt8) : Bool := decide (97 ≤ b.toNat ∧ b.toNat ≤ 122) || decide (65 ≤ b.toNat ∧ b.toNat ≤ 90) || decide (48 ≤ b.toNat ∧ b.toNat ≤ 57) || decide (b.toNat = 95)
def ch2 (b : UInt8) : Bool := decide (b.toNat = 46) || decide (b.toNat = 45)
/-- May the byte at k stand there? -/
def okC (l : List UInt8) (k : Nat) : Bool := chN (lB l k) || (decide (0 < k) && ch2 (lB l k))
def okN (l : List UInt8) : Nat → Bool
  | 0 => true
  | k + 1 => okN l k && okC l k
def lenN (n : Nat) : Bool := decide (1 ≤ n ∧ n ≤ 24)
def isN (l : List UInt8) : Bool := lenN l.length && okN l l.length
def chkN (l : List UInt8) : Int := bif isN l then 0 else 36
theorem okN_all (l : List UInt8) : ∀ k, okN l k = true ↔ ∀ i, i < k → okC l i = true
  | 0 => by simp [okN]
  | k + 1 => by
    rw [okN, Bool.and_eq_true, okN_all l k]
    constructor
    · rintro ⟨h1, h2⟩ i hi
      rcases Nat.lt_or_ge i k with h | h
      · exact h1 i h
      · obtain rfl : i = k := by omega
        exact h2
    · intro h
      exact ⟨fun i hi => h i (by omega), h k (by omega)⟩
theorem okN_not (l : List UInt8) (k n : Nat) (hk : k < n) (h : okC l k = false) : okN l n = false := by
  cases e : okN l n with
  | false => rfl
  | true => rw [(okN_all l n).1 e k hk] at h; cases h
/-! The bytes of a name, and zeros -/
def padN (l : List UInt8) : List UInt8 := l ++ List.replicate (24 - l.length) 0
theorem padN_len (l : List UInt8) (h : isN l = true) : (padN l).length = 24 := by
  unfold isN lenN at h
  simp at h
  unfold padN
  rw [List.length_append, List.length_replicate]; omega
/-- What is read of bytes. -/
def zeroN (b : List UInt8) (n : Nat) : Nat → Bool
  | 0 => true
  | k + 1 => zeroN b n k && decide (lB b (n + k) = 0)
def getB (b : List UInt8) (n : Int) : Bool := decide (b.length = 24) && decide (1 ≤ n ∧ n ≤ 24) && isN (b.take n.toNat) && zeroN b n.toNat (24 - n.toNat)
def getS (b : List UInt8) (n : Int) : List UInt8 := bif getB b n then b.take n.toNat else []
theorem zeroN_all (b : List UInt8) (n : Nat) : ∀ k, zeroN b n k = true ↔ ∀ i, i < k → lB b (n + i) = 0
  | 0 => by simp [zeroN]
  | k + 1 => by
    rw [zeroN, Bool.and_eq_true, zeroN_all b n k, decide_eq_true_eq]
    constructor
    · rintro ⟨h1, h2⟩ i hi
      rcases Nat.lt_or_ge i k with h | h
      · exact h1 i h
      · obtain rfl : i = k := by omega
        exact h2
    · intro h
      exact ⟨fun i hi => h i (by omega), h k (by omega)⟩
theorem zeroN_not (b : List UInt8) (n k m : Nat) (hk : k < m) (h : lB b (n + k) ≠ 0) : zeroN b n m = false := by
  cases e : zeroN b n m with
  | false => rfl
  | true => exact absurd ((zeroN_all b n m).1 e k hk) h
theorem isN_len {l : List UInt8} (h : isN l = true) : 1 ≤ l.length ∧ l.length ≤ 24 := by
  unfold isN lenN at h
  rw [Bool.and_eq_true, decide_eq_true_eq] at h
  exact h.1
theorem lB_app (l m : List UInt8) (k : Nat) (h : k < l.length) : lB (l ++ m) k = lB l k := by
  unfold lB; rw [List.getElem?_append_left h]
theorem okC_congr {l m : List UInt8} {k : Nat} (h : lB l k = lB m k) : okC l k = okC m k := by unfold okC; rw [h]
/-- A byte that may stand in a name is not 0. -/
theorem okC_zero {l : List UInt8} {k : Nat} (h : okC l k = true) : lB l k ≠ 0 := by
  intro e
  unfold okC at h
  rw [e] at h
  have : (0 : UInt8).toNat = 0 := rfl
  unfold chN ch2 at h
  simp [this] at h
/-- What was put is read by its length alone. -/
theorem getB_put (l : List UInt8) (h : isN l = true) (n : Int) : getB (padN l) n = decide (n = (l.length : Int)) := by
  have hl := isN_len h
  have hp := padN_len l h
  by_cases hn : n = (l.length : Int)
  · subst hn
    have e1 : (padN l).take l.length = l := by unfold padN; simp
    have ez : zeroN (padN l) l.length (24 - l.length) = true := (zeroN_all _ _ _).2 fun i hi => by
      unfold padN lB
      rw [List.getElem?_append_right (by omega), List.getElem?_replicate_of_lt (by omega)]; rfl
    unfold getB
    rw [hp, Int.toNat_natCast, e1, h, ez]
    simp; omega
  · rw [decide_eq_false hn]
    unfold getB
    by_cases hr : 1 ≤ n ∧ n ≤ 24
    · obtain ⟨m, rfl⟩ : ∃ m : Nat, n = (m : Int) := ⟨n.toNat, by omega⟩
      rw [Int.toNat_natCast]
      by_cases hlt : m < l.length
      · have hz : zeroN (padN l) m (24 - m) = false := by
          refine zeroN_not _ _ 0 _ (by omega) ?_
          rw [Nat.add_zero]
          unfold padN
          rw [lB_app _ _ _ hlt]
          unfold isN at h
          rw [Bool.and_eq_true] at h
          exact okC_zero ((okN_all _ _).1 h.2 m hlt)
        rw [hz, Bool.and_false]
      · have hm : l.length < m := by omega
        have hf : isN ((padN l).take m) = false := by
          unfold isN
          rw [List.length_take, hp, show min m 24 = m by omega]
          rw [okN_not _ l.length m hm, Bool.and_false]
          unfold okC lB
          rw [List.getElem?_take_of_lt hm]
          unfold padN
          rw [List.getElem?_append_right (by omega), Nat.sub_self, List.getElem?_replicate_of_lt (by omega)]
          simp [chN, ch2]
        rw [hf, Bool.and_false, Bool.false_and]
    · rw [decide_eq_false hr, Bool.and_false, Bool.false_and, Bool.false_and]
theorem getS_put (l : List UInt8) (h : isN l = true) (n : Int) : getS (padN l) n = bif decide (n = (l.length : Int)) then l else [] := by
  unfold getS
  rw [getB_put l h n]
  by_cases hn : n = (l.length : Int)
  · subst hn
    simp [padN]
  · simp [hn]
/-! Seen part by part -/
theorem okC_behind (l : List UInt8) (i : Nat) (h : 0 < i) : okC l i = isN [97, lB l i] := by
  have e : isN [97, lB l i] = (okC [97, lB l i] 0 && okC [97, lB l i] 1) := by
    unfold isN
    show (lenN 2 && (true && okC _ 0 && okC _ 1)) = _
    rfl
  have e0 : okC [97, lB l i] 0 = true := rfl
  have e1 : okC [97, lB l i] 1 = okC l i := by
    unfold okC
    have : lB [97, lB l i] 1 = lB l i := rfl
    rw [this, decide_eq_true h]; rfl
  rw [e, e0, e1]; rfl
theorem okC_first (l : List UInt8) (h : l ≠ []) : okC l 0 = isN (l.take 1) := by
  obtain ⟨a, r, rfl⟩ := List.exists_cons_of_ne_nil h
  show _ = isN [a]
  unfold isN
  show _ = (lenN 1 && (true && okC [a] 0))
  rfl
theorem ok2_first (b : UInt8) : chN b = true → isN [97, b] = true := fun h => by
  unfold isN
  show (lenN 2 && (true && okC [97, b] 0 && okC [97, b] 1)) = true
  have e1 : okC [97, b] 1 = true := by
    unfold okC
    show (chN b || _) = true
    rw [h]; rfl
  rw [e1]; rfl
/-- What NameParts works out. -/
def partN (l : List UInt8) : Nat → Bool
  | 0 => lenN l.length
  | k + 1 => partN l k && isN [97, lB l k]
theorem part_all (l : List UInt8) : ∀ k, partN l k = true ↔ lenN l.length = true ∧ ∀ i, i < k → isN [97, lB l i] = true
  | 0 => by simp [partN]
  | k + 1 => by
    rw [partN, Bool.and_eq_true, part_all l k]
    constructor
    · rintro ⟨⟨h0, h1⟩, h2⟩
      refine ⟨h0, fun i hi => ?_⟩
      rcases Nat.lt_or_ge i k with h | h
      · exact h1 i h
      · obtain rfl : i = k := by omega
        exact h2
    · rintro ⟨h0, h⟩
      exact ⟨⟨h0, fun i hi => h i (by omega)⟩, h k (by omega)⟩
theorem part_is (l : List UInt8) (k : Nat) (hk : k ≤ l.length) (h40 : k = l.length ∨ 40 ≤ k) : isN l = (partN l k && (bif decide (0 < l.length) then isN (l.take 1) else true)) := by
  have key : isN l = true ↔ (partN l k && (bif decide (0 < l.length) then isN (l.take 1) else true)) = true := by
    rw [Bool.and_eq_true, part_all]
    have hI : isN l = (lenN l.length && okN l l.length) := rfl
    rw [hI, Bool.and_eq_true, okN_all]
    constructor
    · rintro ⟨h0, h⟩
      have hl : 1 ≤ l.length ∧ l.length ≤ 24 := by unfold lenN at h0; simpa using h0
      have hne : l ≠ [] := by rintro rfl; simp at hl
      obtain rfl : k = l.length := by omega
      refine ⟨⟨h0, fun i hi => ?_⟩, ?_⟩
      · rcases Nat.eq_zero_or_pos i with rfl | hp
        · have h1 := h 0 (by omega)
          unfold okC at h1
          rw [show decide (0 < 0) = false from rfl, Bool.false_and, Bool.or_false] at h1
          exact ok2_first _ h1
        · rw [← okC_behind l i hp]; exact h i hi
      · rw [decide_eq_true (by omega : 0 < l.length)]
        show isN (l.take 1) = true
        rw [← okC_first l hne]; exact h 0 (by omega)
    · rintro ⟨⟨h0, h⟩, h1⟩
      have hl : 1 ≤ l.length ∧ l.length ≤ 24 := by unfold lenN at h0; simpa using h0
      have hne : l ≠ [] := by rintro rfl; simp at hl
      obtain rfl : k = l.length := by omega
      refine ⟨h0, fun i hi => ?_⟩
      rcases Nat.eq_zero_or_pos i with rfl | hp
      · rw [decide_eq_true (by omega : 0 < l.length)] at h1
        rw [okC_first l hne]; exact h1
      · rw [okC_behind l i hp]; exact h i hi
  cases e1 : isN l <;> cases e2 : (partN l k && (bif decide (0 < l.length) then isN (l.take 1) else true)) <;> simp_all
/-! The order of texts -/
def cmpL : List UInt8 → List UInt8 → Int
  | [], [] => 0
  | [], _ :: _ => -1
  | _ :: _, [] => 1
  | a :: l, b :: m => if a = b then cmpL l m else if a.toNat < b.toNat then -1 else 1
theorem cmp_self : ∀ l, cmpL l l = 0
  | [] => rfl
  | a :: l => by rw [cmpL, if_pos rfl]; exact cmp_self l
theorem cmp_eq : ∀ l m, cmpL l m = 0 ↔ l = m
  | [], [] => by simp [cmpL]
  | [], _ :: _ => by simp [cmpL]
  | _ :: _, [] => by simp [cmpL]
  | a :: l, b :: m => by
    rw [cmpL]
    by_cases h : a = b
    · rw [if_pos h, cmp_eq l m]; simp [h]
    · rw [if_neg h]
      split <;> simp [h]
theorem cmp_swap : ∀ l m, cmpL l m = - cmpL m l
  | [], [] => rfl
  | [], _ :: _ => rfl
  | _ :: _, [] => rfl
  | a :: l, b :: m => by
    rw [cmpL, cmpL]
    by_cases h : a = b
    · rw [if_pos h, if_pos h.symm]; exact cmp_swap l m
    · have hn : a.toNat ≠ b.toNat := fun e => h (UInt8.toNat_inj.1 e)
      have h' : ¬ b = a := fun e => h e.symm
      rw [if_neg h, if_neg h']
      by_cases h2 : a.toNat < b.toNat
      · have h3 : ¬ b.toNat < a.toNat := by omega
        rw [if_pos h2, if_neg h3]
      · have h3 : b.toNat < a.toNat := by omega
        rw [if_neg h2, if_pos h3]; rfl
theorem cmp_three : ∀ l m, cmpL l m = -1 ∨ cmpL l m = 0 ∨ cmpL l m = 1
  | [], [] => by simp [cmpL]
  | [], _ :: _ => by simp [cmpL]
  | _ :: _, [] => by simp [cmpL]
  | a :: l, b :: m => by
    rw [cmpL]
    split
    · exact cmp_three l m
    · split <;> simp
theorem cmp_trans : ∀ l m n, cmpL l m < 0 → cmpL m n < 0 → cmpL l n < 0
  | [], _, [], h, k => by
    rename_i m
    cases m with
    | nil => simp [cmpL] at h
    | cons b m => simp [cmpL] at k
  | [], _, _ :: _, _, _ => by simp [cmpL]
  | _ :: _, [], _, h, _ => by simp [cmpL] at h
  | _ :: _, _ :: _, [], _, k => by simp [cmpL] at k
  | a :: l, b :: m, c :: n, h, k => by
    rw [cmpL] at h k ⊢
    by_cases e1 : a = b
    · subst e1
      rw [if_pos rfl] at h
      by_cases e2 : a = c
      · subst e2
        rw [if_pos rfl] at k ⊢
        exact cmp_trans l m n h k
      · rw [if_neg e2] at k ⊢; exact k
    · rw [if_neg e1] at h
      have h1 : a.toNat < b.toNat := by
        by_cases q : a.toNat < b.toNat
        · exact q
        · rw [if_neg q] at h; omega
      by_cases e2 : b = c
      · subst e2
        rw [if_neg e1, if_pos h1]; omega
      · rw [if_neg e2] at k
        have h2 : b.toNat < c.toNat := by
          by_cases q : b.toNat < c.toNat
          · exact q
          · rw [if_neg q] at k; omega
        have e3 : a ≠ c := by rintro rfl; omega
        rw [if_neg e3, if_pos (by omega)]; omega
theorem cmp_app : ∀ l m, cmpL l (l ++ m) = if m = [] then 0 else -1
  | [], [] => rfl
  | [], _ :: _ => rfl
  | a :: l, m => by rw [List.cons_append, cmpL, if_pos rfl]; exact cmp_app l m
/-- Where the texts go on alike up to k. -/
theorem cmp_drop (l m : List UInt8) (k : Nat) (hl : k < l.length) (hm : k < m.length) : cmpL (l.drop k) (m.drop k) = if lB l k = lB m k then cmpL (l.drop (k + 1)) (m.drop (k + 1)) else if (lB l k).toNat < (lB m k).toNat then -1 else 1 := by
  have e1 : l.drop k = lB l k :: l.drop (k + 1) := by
    rw [List.drop_eq_getElem_cons hl]; unfold lB; rw [List.getElem?_eq_getElem hl]; rfl
  have e2 : m.drop k = lB m k :: m.drop (k + 1) := by
    rw [List.drop_eq_getElem_cons hm]; unfold lB; rw [List.getElem?_eq_getElem hm]; rfl
  rw [e1, e2]; rfl
theorem cmp_end (l m : List UInt8) (k : Nat) (h : k = l.length ∨ k = m.length) (hl : k ≤ l.length) (hm : k ≤ m.length) : cmpL (l.drop k) (m.drop k) = if l.length < m.length then -1 else if m.length < l.length then 1 else 0 := by
  rcases h with rfl | rfl
  · rw [List.drop_length]
    by_cases h2 : l.length = m.length
    · rw [h2, List.drop_length]; simp [cmpL]
    · rw [if_pos (by omega), List.drop_eq_getElem_cons (by omega)]; rfl
  · rw [List.drop_length]
    by_cases h2 : l.length = m.length
    · rw [← h2, List.drop_length]; simp [cmpL]
    · rw [if_neg (by omega), if_pos (by omega), List.drop_eq_getElem_cons (by omega)]; rfl
end Go.Proofs.Ytfdigmlhjjdggaa
