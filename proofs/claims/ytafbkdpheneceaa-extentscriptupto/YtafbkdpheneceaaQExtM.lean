import Derived.Test.YtafbkdpheneceaaQKfr
import Derived.Test.YtafbkdpheneceaaQExt0
import Derived.Test.YtafbkdpheneceaaQRely
import Derived.Test.YtafbkdpheneceaaQRelt
namespace Go.Proofs.Ytafbkdpheneceaa

/-! Ranges of sectors, by definition: from fr on and below to; f: which are taken -/
structure XSt where
  fr : Nat
  hi : Nat
  f : Nat → Bool
def allU (f : Nat → Bool) (a : Nat) (b : Bool) : Nat → Bool
  | 0 => true
  | k + 1 => allU f a b k && (f (a + k) == b)
theorem allU_iff (f : Nat → Bool) (a : Nat) (b : Bool) : ∀ k, allU f a b k = true ↔ ∀ i, i < k → f (a + i) = b
  | 0 => by simp [allU]
  | k + 1 => by
    rw [allU, Bool.and_eq_true, allU_iff f a b k, beq_iff_eq]
    constructor
    · rintro ⟨h1, h2⟩ i hi
      by_cases e : i = k
      · subst e; exact h2
      · exact h1 i (by omega)
    · intro h
      exact ⟨fun i hi => h i (by omega), h k (by omega)⟩
/-- May n from s on be turned to b? -/
def xOk (st : XSt) (s n : Int) (b : Bool) : Bool := decide (n = 0) || (decide (0 < n ∧ (st.fr : Int) ≤ s ∧ s + n ≤ (st.hi : Int)) && allU st.f s.toNat (!b) n.toNat)
def xTurn (st : XSt) (s n : Int) (b : Bool) : XSt := if xOk st s n b = true then { st with f := fun i => if s ≤ (i : Int) ∧ (i : Int) < s + n then b else st.f i } else st
def xTaken (st : XSt) (a : Int) : Bool := decide ((st.fr : Int) ≤ a ∧ a < (st.hi : Int)) && st.f a.toNat
/-- The free ones of k sectors from a on, as few ranges as there can be. -/
def runs (f : Nat → Bool) : Nat → Nat → List (Nat × Nat)
  | _, 0 => []
  | a, k + 1 =>
    bif f a then runs f (a + 1) k else
      match runs f (a + 1) k with
      | [] => [(a, 1)]
      | (x, n) :: r => if x = a + 1 then (a, n + 1) :: r else (a, 1) :: (x, n) :: r
def xRuns (st : XSt) : List (Nat × Nat) := runs st.f st.fr (st.hi - st.fr)
def leftU (f : Nat → Bool) (a : Nat) : Nat → Nat
  | 0 => 0
  | k + 1 => leftU f a k + (bif f (a + k) then 0 else 1)
def xLeft (st : XSt) : Nat := leftU st.f st.fr (st.hi - st.fr)
def lowR (n : Int) : List (Nat × Nat) → Option Nat
  | [] => none
  | (a, m) :: r => if 0 < n ∧ n ≤ (m : Int) then some a else lowR n r
def xLow (st : XSt) (n : Int) : Option Nat := lowR n (xRuns st)
def isIn (i : Nat) (l : List (Nat × Nat)) : Bool := l.any fun p => decide (p.1 ≤ i ∧ i < p.1 + p.2)
def sumR : List (Nat × Nat) → Nat
  | [] => 0
  | p :: r => p.2 + sumR r
/-- Ranges that rise and touch nowhere, within a and z. -/
def Rises (z : Nat) : Nat → List (Nat × Nat) → Prop
  | _, [] => True
  | a, (x, n) :: r => a ≤ x ∧ 1 ≤ n ∧ x + n ≤ z ∧ Rises z (x + n + 1) r
theorem Rises.mono {z a b : Nat} (h : b ≤ a) : ∀ {l : List (Nat × Nat)}, Rises z a l → Rises z b l
  | [], _ => trivial
  | (_, _) :: _, ⟨h1, h2, h3, h4⟩ => ⟨Nat.le_trans h h1, h2, h3, h4⟩
theorem runs_rises (f : Nat → Bool) : ∀ k a, Rises (a + k) a (runs f a k)
  | 0, a => trivial
  | k + 1, a => by
    have ih := runs_rises f k (a + 1)
    rw [show a + 1 + k = a + (k + 1) by omega] at ih
    rw [runs]
    cases hf : f a
    · simp only [cond_false]
      cases hr : runs f (a + 1) k with
      | nil => exact ⟨Nat.le_refl _, Nat.le_refl _, by omega, trivial⟩
      | cons p r =>
        obtain ⟨x, n⟩ := p
        rw [hr] at ih
        obtain ⟨h1, h2, h3, h4⟩ := ih
        by_cases hx : x = a + 1
        · simp only [hx, if_true]
          refine ⟨Nat.le_refl _, by omega, by omega, ?_⟩
          rw [show a + (n + 1) + 1 = x + n + 1 by omega]; exact h4
        · simp only [hx, if_false]
          exact ⟨Nat.le_refl _, Nat.le_refl _, by omega, by omega, h2, h3, h4⟩
    · simp only [cond_true]
      exact ih.mono (by omega)
theorem isIn_cons (i : Nat) (p : Nat × Nat) (l : List (Nat × Nat)) : isIn i (p :: l) = (decide (p.1 ≤ i ∧ i < p.1 + p.2) || isIn i l) := by simp [isIn]
theorem runs_in (f : Nat → Bool) (i : Nat) : ∀ k a, isIn i (runs f a k) = (decide (a ≤ i ∧ i < a + k) && !f i)
  | 0, a => by
    rw [decide_eq_false (show ¬ (a ≤ i ∧ i < a + 0) by omega)]
    rfl
  | k + 1, a => by
    have ih := runs_in f i k (a + 1)
    rw [runs]
    cases hf : f a
    · simp only [cond_false]
      cases hr : runs f (a + 1) k with
      | nil =>
        rw [hr] at ih
        rw [isIn_cons]
        simp only
        rw [show isIn i [] = false from rfl] at ih ⊢
        by_cases he : i = a
        · subst he; simp [hf]
        · have h1 : ¬ (a ≤ i ∧ i < a + 1) := by omega
          rw [decide_eq_false h1]
          by_cases h2 : a ≤ i ∧ i < a + (k + 1)
          · rw [decide_eq_true (show a + 1 ≤ i ∧ i < a + 1 + k by omega)] at ih
            rw [decide_eq_true h2]; simpa using ih
          · simp [h2]
      | cons p r =>
        obtain ⟨x, n⟩ := p
        have hri := runs_rises f k (a + 1)
        rw [hr] at ih hri
        obtain ⟨h1, h2, h3, h4⟩ := hri
        rw [isIn_cons] at ih
        simp only at ih
        by_cases hx : x = a + 1
        · simp only [hx, if_true]
          rw [isIn_cons]
          simp only
          by_cases he : i = a
          · subst he
            rw [decide_eq_true (show i ≤ i ∧ i < i + (n + 1) by omega), decide_eq_true (show i ≤ i ∧ i < i + (k + 1) by omega), hf]; rfl
          · have e1 : decide (a ≤ i ∧ i < a + (n + 1)) = decide (x ≤ i ∧ i < x + n) := by
              rw [decide_eq_decide]; omega
            have e2 : decide (a ≤ i ∧ i < a + (k + 1)) = decide (a + 1 ≤ i ∧ i < a + 1 + k) := by
              rw [decide_eq_decide]; omega
            rw [e1, e2, ih]
        · simp only [hx, if_false]
          rw [isIn_cons, isIn_cons]
          simp only
          by_cases he : i = a
          · subst he
            rw [decide_eq_true (show i ≤ i ∧ i < i + 1 by omega), decide_eq_true (show i ≤ i ∧ i < i + (k + 1) by omega), hf]; rfl
          · have e1 : decide (a ≤ i ∧ i < a + 1) = false := by rw [decide_eq_false_iff_not]; omega
            have e2 : decide (a ≤ i ∧ i < a + (k + 1)) = decide (a + 1 ≤ i ∧ i < a + 1 + k) := by
              rw [decide_eq_decide]; omega
            rw [e1, e2, ih, Bool.false_or]
    · simp only [cond_true]
      rw [ih]
      by_cases he : i = a
      · subst he; simp [hf]
      · have e2 : decide (a ≤ i ∧ i < a + (k + 1)) = decide (a + 1 ≤ i ∧ i < a + 1 + k) := by
          rw [decide_eq_decide]; omega
        rw [e2]
theorem leftU_front (f : Nat → Bool) : ∀ k a, leftU f a (k + 1) = (bif f a then 0 else 1) + leftU f (a + 1) k
  | 0, a => by simp [leftU]
  | k + 1, a => by
    rw [leftU, leftU_front f k a, leftU, show a + 1 + k = a + (k + 1) by omega]
    omega
theorem runs_sum (f : Nat → Bool) : ∀ k a, sumR (runs f a k) = leftU f a k
  | 0, a => rfl
  | k + 1, a => by
    have ih := runs_sum f k (a + 1)
    rw [runs, leftU_front]
    cases hf : f a
    · simp only [cond_false]
      cases hr : runs f (a + 1) k with
      | nil => rw [hr] at ih; rw [← ih]; rfl
      | cons p r =>
        obtain ⟨x, n⟩ := p
        rw [hr] at ih
        by_cases hx : x = a + 1
        · simp only [hx, if_true]
          rw [← ih]; simp only [sumR]; omega
        · simp only [hx, if_false]
          rw [← ih]; simp only [sumR]
    · simp only [cond_true]
      rw [ih]; omega
theorem xTurn_ends (st : XSt) (s n : Int) (b : Bool) : (xTurn st s n b).fr = st.fr ∧ (xTurn st s n b).hi = st.hi := by
  unfold xTurn
  split <;> exact ⟨rfl, rfl⟩
end Go.Proofs.Ytafbkdpheneceaa
namespace Go.Proofs.Ytafbkdpheneceaa
open Go.RowKit

/-! What extent owes, whatever it is made of: X w v st F: at w the extent v is in the state st; it lies in the blocks F, and it may turn no others. -/
def rI (l : List (Nat × Nat)) : List Pr := l.map fun p => ((p.1 : Int), (p.2 : Int))
theorem rI_len (l : List (Nat × Nat)) : (rI l).length = l.length := by simp [rI]
def XStep (X : World → Value → XSt → List Nat → Prop) (F : List Nat) (w : World) (v : Value) (st : XSt) (w' : World) : Prop := ∃ F', X w' v st F' ∧ (∀ q ∈ F', q ∈ F ∨ w.heap.size ≤ q) ∧ Keep F w w'
def i64 (a : Int) : Prop := -9223372036854775808 ≤ a ∧ a ≤ 9223372036854775807
structure ExtOk (X : World → Value → XSt → List Nat → Prop) : Prop where
  keeps : ∀ {w w' v st F G}, X w v st F → Keep G w w' → (∀ q ∈ F, q ∉ G) → X w' v st F
  lt : ∀ {w v st F}, X w v st F → ∀ q ∈ F, q < w.heap.size
  ok : ∀ {w v st F}, X w v st F → st.fr ≤ st.hi ∧ st.hi ≤ 1024
  ptr : ∀ {w v st F}, X w v st F → ∃ a, v = .pointer (some a)
  new : ∀ w (a b : Int), i64 a → i64 b → Calls Try.prog 6 #[.int .i64 a, .int .i64 b] w fun e w' => Below w.heap.size w w' ∧
    ((0 ≤ a ∧ a ≤ b ∧ b ≤ 1024 ∧ ∃ v F, e = .returned (.tuple #[v, .int .i64 0]) ∧ X w' v ⟨a.toNat, b.toNat, fun _ => false⟩ F ∧ ∀ q ∈ F, w.heap.size ≤ q) ∨ (¬ (0 ≤ a ∧ a ≤ b ∧ b ≤ 1024) ∧ e = .returned (.tuple #[.pointer none, .int .i64 1])))
  take : ∀ w v st F (a n : Int), X w v st F → i64 a → i64 n → Calls Try.prog 8 #[v, .int .i64 a, .int .i64 n] w fun e w' => e = .returned (.bool (xOk st a n true)) ∧ XStep X F w v (xTurn st a n true) w'
  free : ∀ w v st F (a n : Int), X w v st F → i64 a → i64 n → Calls Try.prog 9 #[v, .int .i64 a, .int .i64 n] w fun e w' => e = .returned (.bool (xOk st a n false)) ∧ XStep X F w v (xTurn st a n false) w'
  taken : ∀ w v st F (a : Int), X w v st F → i64 a → Calls Try.prog 11 #[v, .int .i64 a] w fun e w' => e = .returned (.bool (xTaken st a)) ∧ XStep X F w v st w'
  lowest : ∀ w v st F (n : Int), X w v st F → i64 n → Calls Try.prog 12 #[v, .int .i64 n] w fun e w' => e = .returned (.tuple #[.int .i64 ((xLow st n).getD 0 : Nat), .bool (xLow st n).isSome]) ∧ XStep X F w v st w'
  left : ∀ w v st F, X w v st F → Calls Try.prog 13 #[v] w fun e w' => e = .returned (.int .i64 (xLeft st : Nat)) ∧ XStep X F w v st w'
  ranges : ∀ w v st F, X w v st F → Calls Try.prog 10 #[v] w fun e w' => ∃ y c F', e = .returned (.slice y (xRuns st).length c) ∧ OwnK prE w' w.heap.size (.slice y (xRuns st).length c) (rI (xRuns st)) ∧ X w' v st F' ∧ (∀ q ∈ F', q ∈ F ∨ w.heap.size ≤ q) ∧ (∀ q, (Value.slice y (xRuns st).length c).ownBlock = some q → q ∉ F') ∧ Keep F w w'
  copy : ∀ w v st F, X w v st F → Calls Try.prog 18 #[v] w fun e w' => ∃ v' F' F'', e = .returned v' ∧ X w' v st F' ∧ X w' v' st F'' ∧ (∀ q ∈ F', q ∈ F ∨ w.heap.size ≤ q) ∧ (∀ q ∈ F'', w.heap.size ≤ q ∧ q ∉ F') ∧ Keep F w w'
/-- What the calls owe on an extent that is none. -/
structure ExtNil : Prop where
  take : ∀ w (a n : Int), Calls Try.prog 8 #[.pointer none, .int .i64 a, .int .i64 n] w fun e w' => e = .returned (.bool false) ∧ Below w.heap.size w w'
  free : ∀ w (a n : Int), Calls Try.prog 9 #[.pointer none, .int .i64 a, .int .i64 n] w fun e w' => e = .returned (.bool false) ∧ Below w.heap.size w w'
  taken : ∀ w (a : Int), Calls Try.prog 11 #[.pointer none, .int .i64 a] w fun e w' => e = .returned (.bool false) ∧ Below w.heap.size w w'
  lowest : ∀ w (n : Int), Calls Try.prog 12 #[.pointer none, .int .i64 n] w fun e w' => (∃ a, e = .returned (.tuple #[.int .i64 a, .bool false])) ∧ Below w.heap.size w w'
  left : ∀ w, Calls Try.prog 13 #[.pointer none] w fun e w' => e = .returned (.int .i64 0) ∧ Below w.heap.size w w'
  ranges : ∀ w, Calls Try.prog 10 #[.pointer none] w fun e w' => (∃ y c, e = .returned (.slice y 0 c)) ∧ Below w.heap.size w w'
  copy : ∀ w, Calls Try.prog 18 #[.pointer none] w fun e w' => e = .returned (.pointer none) ∧ Below w.heap.size w w'
/-- One extent, newer than B; the blocks A are none of its. -/
def XAt (X : World → Value → XSt → List Nat → Prop) (B : Nat) (A : List Nat) (W : World) (v : Value) (st : XSt) : Prop := ∃ F, X W v st F ∧ (∀ q ∈ F, B ≤ q) ∧ ∀ a ∈ A, a ∉ F ∧ a < W.heap.size
/-- What has turned is none of the blocks A. -/
def KeepA (A : List Nat) (w w' : World) : Prop := ∃ F, Keep F w w' ∧ ∀ a ∈ A, a ∉ F
section
variable {X : World → Value → XSt → List Nat → Prop}
theorem XAt.step {B : Nat} {A : List Nat} {W W' : World} {v : Value} {st' : XSt} {F : List Nat} (hF : ∀ q ∈ F, B ≤ q) (hA : ∀ a ∈ A, a ∉ F ∧ a < W.heap.size) (hB : B ≤ W.heap.size) (hs : XStep X F W v st' W') : XAt X B A W' v st' ∧ Below B W W' ∧ KeepA A W W' := by
  obtain ⟨F', h1, h2, h3⟩ := hs
  refine ⟨⟨F', h1, fun q hq => (h2 q hq).elim (hF q) (fun h => by omega), fun a ha => ⟨fun hm => ?_, Nat.lt_of_lt_of_le (hA a ha).2 h3.size⟩⟩, h3.below hF hB, F, h3, fun a ha => (hA a ha).1⟩
  have := hA a ha
  exact (h2 a hm).elim this.1 (fun h => by omega)
theorem XAt.ptr {B : Nat} {A : List Nat} {W : World} {v : Value} {st : XSt} (O : ExtOk X) (h : XAt X B A W v st) : ∃ a, v = .pointer (some a) := by
  obtain ⟨F, h1, -, -⟩ := h
  exact O.ptr h1
theorem XAt.take {B : Nat} {A : List Nat} {W : World} {v : Value} {st : XSt} (O : ExtOk X) (h : XAt X B A W v st) (hB : B ≤ W.heap.size) (a n : Int) (ha : i64 a) (hn : i64 n) :
    Calls Try.prog 8 #[v, .int .i64 a, .int .i64 n] W fun e w' => e = .returned (.bool (xOk st a n true)) ∧ XAt X B A w' v (xTurn st a n true) ∧ Below B W w' ∧ KeepA A W w' := by
  obtain ⟨F, h1, h2, h3⟩ := h
  exact (O.take W v st F a n h1 ha hn).mono fun e w' hh => ⟨hh.1, XAt.step h2 h3 hB hh.2⟩
theorem XAt.free {B : Nat} {A : List Nat} {W : World} {v : Value} {st : XSt} (O : ExtOk X) (h : XAt X B A W v st) (hB : B ≤ W.heap.size) (a n : Int) (ha : i64 a) (hn : i64 n) :
    Calls Try.prog 9 #[v, .int .i64 a, .int .i64 n] W fun e w' => e = .returned (.bool (xOk st a n false)) ∧ XAt X B A w' v (xTurn st a n false) ∧ Below B W w' ∧ KeepA A W w' := by
  obtain ⟨F, h1, h2, h3⟩ := h
  exact (O.free W v st F a n h1 ha hn).mono fun e w' hh => ⟨hh.1, XAt.step h2 h3 hB hh.2⟩
theorem XAt.taken {B : Nat} {A : List Nat} {W : World} {v : Value} {st : XSt} (O : ExtOk X) (h : XAt X B A W v st) (hB : B ≤ W.heap.size) (a : Int) (ha : i64 a) :
    Calls Try.prog 11 #[v, .int .i64 a] W fun e w' => e = .returned (.bool (xTaken st a)) ∧ XAt X B A w' v st ∧ Below B W w' ∧ KeepA A W w' := by
  obtain ⟨F, h1, h2, h3⟩ := h
  exact (O.taken W v st F a h1 ha).mono fun e w' hh => ⟨hh.1, XAt.step h2 h3 hB hh.2⟩
theorem XAt.lowest {B : Nat} {A : List Nat} {W : World} {v : Value} {st : XSt} (O : ExtOk X) (h : XAt X B A W v st) (hB : B ≤ W.heap.size) (n : Int) (hn : i64 n) :
    Calls Try.prog 12 #[v, .int .i64 n] W fun e w' => e = .returned (.tuple #[.int .i64 ((xLow st n).getD 0 : Nat), .bool (xLow st n).isSome]) ∧ XAt X B A w' v st ∧ Below B W w' ∧ KeepA A W w' := by
  obtain ⟨F, h1, h2, h3⟩ := h
  exact (O.lowest W v st F n h1 hn).mono fun e w' hh => ⟨hh.1, XAt.step h2 h3 hB hh.2⟩
theorem XAt.left {B : Nat} {A : List Nat} {W : World} {v : Value} {st : XSt} (O : ExtOk X) (h : XAt X B A W v st) (hB : B ≤ W.heap.size) :
    Calls Try.prog 13 #[v] W fun e w' => e = .returned (.int .i64 (xLeft st : Nat)) ∧ XAt X B A w' v st ∧ Below B W w' ∧ KeepA A W w' := by
  obtain ⟨F, h1, h2, h3⟩ := h
  exact (O.left W v st F h1).mono fun e w' hh => ⟨hh.1, XAt.step h2 h3 hB hh.2⟩
theorem XAt.ranges {B : Nat} {A : List Nat} {W : World} {v : Value} {st : XSt} (O : ExtOk X) (h : XAt X B A W v st) (hB : B ≤ W.heap.size) :
    Calls Try.prog 10 #[v] W fun e w' => ∃ y c A', e = .returned (.slice y (xRuns st).length c) ∧ OwnK prE w' B (.slice y (xRuns st).length c) (rI (xRuns st)) ∧ XAt X B (A' ++ A) w' v st ∧ (∀ q, (Value.slice y (xRuns st).length c).ownBlock = some q → q ∈ A') ∧ (∀ q ∈ A', W.heap.size ≤ q) ∧ Below B W w' ∧ KeepA A W w' := by
  obtain ⟨F, h1, h2, h3⟩ := h
  refine (O.ranges W v st F h1).mono ?_
  rintro e w' ⟨y, c, F', rfl, hO, hX, hF', hnot, hK⟩
  obtain ⟨⟨F2, g1, g2, g3⟩, hB2, hKA⟩ := XAt.step h2 h3 hB ⟨F', hX, hF', hK⟩
  refine ⟨y, c, (Value.slice y (xRuns st).length c).ownBlock.toList, rfl, hO.le hB, ⟨F', hX, fun q hq => (hF' q hq).elim (h2 q) (fun h => by omega), ?_⟩, fun q hq => by rw [hq]; simp, ?_, hB2, hKA⟩
  · intro a ha
    rcases List.mem_append.1 ha with ha | ha
    · have ha' : (Value.slice y (xRuns st).length c).ownBlock = some a := by simpa using ha
      exact ⟨hnot a ha', (World.ownsRow.lt hO a ha').2⟩
    · refine ⟨fun hm => ?_, Nat.lt_of_lt_of_le (h3 a ha).2 hK.size⟩
      exact (hF' a hm).elim (h3 a ha).1 (fun h => by have := (h3 a ha).2; omega)
  · intro q hq
    have hq' : (Value.slice y (xRuns st).length c).ownBlock = some q := by simpa using hq
    exact (World.ownsRow.lt hO q hq').1
theorem XAt.later {B : Nat} {A : List Nat} {W W' : World} {v : Value} {st : XSt} (O : ExtOk X) (h : XAt X B A W v st) (hb : Below W.heap.size W W') : XAt X B A W' v st := by
  obtain ⟨F, h1, h2, h3⟩ := h
  exact ⟨F, O.keeps (G := []) h1 (Keep.of_below hb) (fun _ _ => by simp), h2, fun a ha => ⟨(h3 a ha).1, Nat.lt_of_lt_of_le (h3 a ha).2 hb.size⟩⟩
/-- A block of A's turns; new ones come. -/
theorem XAt.grown {B : Nat} {A : List Nat} {W W' : World} {v : Value} {st : XSt} {row : Option Nat} (O : ExtOk X) (h : XAt X B A W v st) (hg : W.grownBy W' row) (hr : ∀ q, row = some q → q ∈ A) : XAt X B A W' v st := by
  obtain ⟨F, h1, h2, h3⟩ := h
  exact ⟨F, O.keeps (G := row.toList) h1 (Keep.of_grown hg (fun q hq => by rw [hq]; simp)) (fun q hq hm => by
    have hm' : row = some q := by simpa using hm
    exact (h3 q (hr q hm')).1 hq), h2, fun a ha => ⟨(h3 a ha).1, Nat.lt_of_lt_of_le (h3 a ha).2 hg.size⟩⟩
/-- New blocks are none of its. -/
theorem XAt.more {B : Nat} {A : List Nat} {W W' : World} {v : Value} {st : XSt} {row : Option Nat} (O : ExtOk X) (h : XAt X B A W v st) (hg : W.grownBy W' row) (hr : ∀ q, row = some q → q ∈ A) (A' : List Nat) (hA' : ∀ a ∈ A', a ∈ A ∨ (W.heap.size ≤ a ∧ a < W'.heap.size)) : XAt X B A' W' v st := by
  obtain ⟨F, h1, h2, h3⟩ := h
  refine ⟨F, O.keeps (G := row.toList) h1 (Keep.of_grown hg (fun q hq => by rw [hq]; simp)) (fun q hq hm => by
    have hm' : row = some q := by simpa using hm
    exact (h3 q (hr q hm')).1 hq), h2, fun a ha => ?_⟩
  rcases hA' a ha with h | h
  · exact ⟨(h3 a h).1, Nat.lt_of_lt_of_le (h3 a h).2 hg.size⟩
  · exact ⟨fun hm => by have := O.lt h1 a hm; omega, h.2⟩
theorem KeepA.own {α : Type} {E : EK α} {A : List Nat} {w w' : World} {B : Nat} {v : Value} {ds : List α} (h : KeepA A w w') (hO : OwnK E w B v ds) (hv : ∀ q, v.ownBlock = some q → q ∈ A) : OwnK E w' B v ds := by
  obtain ⟨F, hK, hA⟩ := h
  exact hO.keeps hK (fun q hq => hA q (hv q hq))
theorem KeepA.mono {A A' : List Nat} {w w' : World} (h : KeepA A w w') (hA : ∀ a ∈ A', a ∈ A) : KeepA A' w w' := by
  obtain ⟨F, hK, hF⟩ := h
  exact ⟨F, hK, fun a ha => hF a (hA a ha)⟩
end
end Go.Proofs.Ytafbkdpheneceaa
namespace Go.Proofs.Ytafbkdpheneceaa
open Go.RowKit

/-! assaylaw08's same, known -/
set_option linter.unusedSimpArgs false in
set_option maxHeartbeats 400000 in
theorem sameP_any (xa xb : Option Addr) (ca cb na nb : Nat) (ds es : List Pr) (w : World) (hna : ds.length = na) (hnb : es.length = nb) (ha : IsK prE w (.slice xa na ca) ds) (hb : IsK prE w (.slice xb nb cb) es) (hlen : na ≤ 140737488355328) :
    Calls Try.prog 14 #[.slice xa na ca, .slice xb nb cb] w fun e w' => e = .returned (.bool (decide (ds = es))) ∧ Below w.heap.size w w' := by
  obtain ⟨r, hr⟩ : ∃ r, decide (ds = es) = r := ⟨_, rfl⟩
  have HR : Hid _ := hr
  rw [hr]
  clear hr
  go_enter Try.func14, Try.ntmps14
  by_cases hl : na = nb
  · have hl1 : (na : Int) = (nb : Int) := by omega
    have hl2 : ((na : Int) != (nb : Int)) = false := by simp; omega
    go_wp2_with fail
    clear hl1 hl2
    go_loopw [5] (fun i wr => ∃ k : Nat, k ≤ na ∧ i = .int .i64 k ∧ (∀ (j : Nat) a b, j < k → ds[j]? = some a → es[j]? = some b → a = b) ∧ Below w.heap.size w wr) (fun i _ => na - (intOf i).toNat)
    case atStart => exact ⟨0, by omega, rfl, fun j a b hj => by omega, Below.refl _ _⟩
    case round =>
      obtain ⟨k, hk, rfl, hU, hB⟩ := hrel
      by_cases hlt : k < na
      · obtain ⟨a, hka⟩ : ∃ a, ds[k]? = some a := ⟨ds[k], List.getElem?_eq_getElem (by omega)⟩
        obtain ⟨b, hkb⟩ : ∃ b, es[k]? = some b := ⟨es[k]'(by omega), List.getElem?_eq_getElem (by omega)⟩
        obtain ⟨b1, o1, rfl, hb1, hr1⟩ := (ha.kept hB).at k a hka
        obtain ⟨b2, o2, rfl, hb2, hr2⟩ := (hb.kept hB).at k b hkb
        obtain ⟨ok1, rg1⟩ := rg_of hr1 (prE_ok.len a)
        obtain ⟨ok2, rg2⟩ := rg_of hr2 (prE_ok.len b)
        rw [prE_arr] at rg1 rg2
        rw [prE_k] at ok1 rg1 ok2 rg2
        have heq := prEq_dec a b
        have hk0 : (0 : Int) ≤ (k : Int) := by omega
        have hk1 : (k : Int) < (na : Int) := by omega
        have hk2 : (k : Int) < (nb : Int) := by omega
        clear hr1 hr2
        by_cases he : a = b
        · have heq' : prEq a b = true := by rw [heq]; simp [he]
          have HU : Hid (∀ (j : Nat) a b, j < k + 1 → ds[j]? = some a → es[j]? = some b → a = b) := fun j x y hj hx hy => by
            rcases Nat.lt_or_ge j k with h1 | h1
            · exact hU j x y h1 hx hy
            · obtain rfl : j = k := by omega
              rw [hka] at hx; rw [hkb] at hy
              cases hx; cases hy
              exact he
          have HB : Hid (∀ n, Below w.heap.size w (wr.drewN n)) := fun n => ⟨hB.os, hB.tape, hB.output, hB.size, hB.block⟩
          clear hU heq he hka hkb hB
          go_upto_region 6 with fail
          go_quiet (fail)
          go_wp2
          go_roundw
          case rel => exact ⟨k + 1, by omega, by go_num, HU.out, HB.out _⟩
          case measure => simp [intOf]; omega
        · have heq' : prEq a b = false := by rw [heq]; simp [he]
          have HV : Hid (r = false) := by
            show _ = _
            rw [← HR.out, decide_eq_false_iff_not]
            intro hn
            have h1 := congrArg (fun l => l[k]?) hn
            simp only [hka, hkb, Option.some.injEq] at h1
            exact he h1
          have HB : Hid (∀ n, Below w.heap.size w (wr.drewN n)) := fun n => ⟨hB.os, hB.tape, hB.output, hB.size, hB.block⟩
          clear hU heq he hka hkb hB
          go_upto_region 6 with fail
          go_quiet (fail)
          go_wp2
          go_ret
          exact ⟨by rw [HV.out]; rfl, HB.out _⟩
      · obtain rfl : k = na := by omega
        have HV : Hid (r = true) := by
          show _ = _
          rw [← HR.out, decide_eq_true_iff]
          apply List.ext_getElem?
          intro j
          try simp only [List.getElem?_map]
          by_cases hj : j < ds.length
          · have hj2 : j < es.length := by omega
            rw [List.getElem?_eq_getElem hj, List.getElem?_eq_getElem hj2]
            try simp only [Option.map_some]
            rw [hU j _ _ (by omega) (List.getElem?_eq_getElem hj) (List.getElem?_eq_getElem hj2)]
          · rw [List.getElem?_eq_none (by omega), List.getElem?_eq_none (by omega)]
        clear hU
        go_wp2
        go_ret
        exact ⟨by rw [HV.out]; rfl, hB⟩
  · have hl1 : ¬ (na : Int) = (nb : Int) := by omega
    have hl2 : ((na : Int) != (nb : Int)) = true := by simp; omega
    have HV : Hid (r = false) := by
      show _ = _
      rw [← HR.out, decide_eq_false_iff_not]
      intro hn
      have := congrArg List.length hn
      try simp only [List.length_map] at this
      omega
    go_wp2
    go_ret
    exact ⟨by rw [HV.out]; rfl, Below.refl _ _⟩

def x8a : XSt := ⟨10, 20, fun _ => false⟩
def x8b : XSt := xTurn x8a 12 3 true
theorem x8_1 : xOk x8a 12 3 true = true := by decide +kernel
theorem x8_2 : xOk x8b 14 1 true = false := by decide +kernel
theorem x8_3 : xLeft x8b = 7 := by decide +kernel
theorem x8_4 : rI (xRuns x8b) = [(10, 2), (15, 5)] := by decide +kernel
theorem x8_5 : xLow x8b 3 = some 15 := by decide +kernel
theorem x8_6 : xTurn x8b 14 1 true = x8b := by unfold xTurn; rw [x8_2]; rfl
set_option linter.unusedSimpArgs false in
set_option maxRecDepth 100000 in
set_option maxHeartbeats 1000000 in
theorem known8_any {X : World → Value → XSt → List Nat → Prop} (O : ExtOk X) (N : ExtNil) (w : World) :
    Calls Try.prog 7 #[] w fun e w' => e = .returned (.bool true) ∧ Below w.heap.size w w' := by
  go_enter Try.func7, Try.ntmps7
  go_wp2_with fail
  go_at_call 6
  refine (O.new w 10 20 (by unfold i64; omega) (by unfold i64; omega)).mono ?_
  rintro e w1 ⟨hB1, h⟩
  obtain ⟨-, -, -, v, F, rfl, hX0, hF⟩ := h.resolve_right (fun h => h.1 (by omega))
  have hX : XAt X w.heap.size [] w1 v x8a := ⟨F, hX0, hF, by simp⟩
  obtain ⟨ad, rfl⟩ := hX.ptr O
  clear hX0 hF h F
  have hz : ∀ a : Int, a ∈ [0, 1, 3, 12, 14] → i64 a := by intro a ha; simp at ha; unfold i64; omega
  go_wp2_with fail
  go_at_call 8
  refine (hX.take O hB1.size 12 3 (hz _ (by simp)) (hz _ (by simp))).mono ?_
  rintro e w2 ⟨rfl, hX2, hb2, -⟩
  rw [x8_1]
  have hX2' : XAt X w.heap.size [] w2 (.pointer (some ad)) x8b := hX2
  have hB2 := hB1.trans hb2
  clear hX hX2 hb2 hB1
  go_wp2_with fail
  go_at_call 8
  refine (hX2'.take O hB2.size 14 1 (hz _ (by simp)) (hz _ (by simp))).mono ?_
  rintro e w3 ⟨rfl, hX3, hb3, -⟩
  rw [x8_2]
  rw [x8_6] at hX3
  have hB3 := hB2.trans hb3
  clear hX2' hb3 hB2
  go_wp2_with fail
  go_at_call 13
  refine (hX3.left O hB3.size).mono ?_
  rintro e w4 ⟨rfl, hX4, hb4, -⟩
  rw [x8_3]
  have hB4 := hB3.trans hb4
  clear hX3 hb4 hB3
  go_wp2_with fail
  go_at_call 10
  refine (hX4.ranges O hB4.size).mono ?_
  rintro e w5 ⟨y, c, A, rfl, hO5, hX5, -, -, hb5, -⟩
  have hlen : (xRuns x8b).length = 2 := by rw [← rI_len, x8_4]; rfl
  rw [x8_4] at hO5
  rw [hlen] at hO5 ⊢
  have hB5 := hB4.trans hb5
  clear hX4 hb5 hB4 hlen
  have hA5 := below_alloc w5 (.cells (pr2 (10, 2) (15, 5)) 33)
  have hP := own_pr2 w5 (10, 2) (15, 5)
  have hO6 := hO5.keep hA5
  have hX6 := hX5.later O hA5
  have hB6 := hB5.trans (hA5.mono hB5.size)
  go_wp2_with fail
  go_at_call 14
  refine (sameP_any _ _ _ _ 2 2 [(10, 2), (15, 5)] [(10, 2), (15, 5)] _ rfl rfl (hO6.isK prE_ok) (hP.isK prE_ok) (by omega)).mono ?_
  rintro e w7 ⟨rfl, hb7⟩
  rw [decide_eq_true rfl]
  have hX7 := hX6.later O hb7
  have hB7 := hB6.trans (hb7.mono hB6.size)
  clear hA5 hP hO6 hX6 hB6 hb7 hO5 hX5 hB5
  go_wp2_with fail
  go_at_call 12
  refine (hX7.lowest O hB7.size 3 (hz _ (by simp))).mono ?_
  rintro e w8 ⟨rfl, hX8, hb8, -⟩
  rw [x8_5]
  have hB8 := hB7.trans hb8
  clear hX7 hb8 hB7 hX8
  go_wp2_with fail
  go_at_call 12
  refine (N.lowest _ 1).mono ?_
  rintro e w9 ⟨⟨la, rfl⟩, hb9⟩
  have hB9 := hB8.trans (hb9.mono hB8.size)
  clear hb9 hB8
  go_wp2_with fail
  go_at_call 8
  refine (N.take _ 0 0).mono ?_
  rintro e w10 ⟨rfl, hb10⟩
  have hB10 := hB9.trans (hb10.mono hB9.size)
  clear hb10 hB9
  go_wp2_with fail
  go_at_call 9
  refine (N.free _ 0 0).mono ?_
  rintro e w11 ⟨rfl, hb11⟩
  have hB11 := hB10.trans (hb11.mono hB10.size)
  clear hb11 hB10
  go_wp2_with fail
  go_at_call 11
  refine (N.taken _ 0).mono ?_
  rintro e w12 ⟨rfl, hb12⟩
  have hB12 := hB11.trans (hb12.mono hB11.size)
  clear hb12 hB11
  go_wp2_with fail
  go_at_call 13
  refine (N.left _).mono ?_
  rintro e w13 ⟨rfl, hb13⟩
  have hB13 := hB12.trans (hb13.mono hB12.size)
  clear hb13 hB12
  go_wp2_with fail
  go_at_call 10
  refine (N.ranges _).mono ?_
  rintro e w14 ⟨⟨y2, c2, rfl⟩, hb14⟩
  have hB14 := hB13.trans (hb14.mono hB13.size)
  clear hb14 hB13
  go_wp2_with fail
  go_at_call 18
  refine (N.copy _).mono ?_
  rintro e w15 ⟨rfl, hb15⟩
  have hB15 := hB14.trans (hb15.mono hB14.size)
  clear hb15 hB14
  go_wp2
  go_ret
  exact ⟨rfl, hB15⟩
end Go.Proofs.Ytafbkdpheneceaa
namespace Go.Proofs.Ytafbkdpheneceaa

/-! What the ranges tell, one behind the other -/
theorem rises_at {z : Nat} : ∀ {l : List (Nat × Nat)} {a : Nat} (_ : Rises z a l) (i : Nat) (p : Nat × Nat), l[i]? = some p → 1 ≤ p.2 ∧ a ≤ p.1 ∧ p.1 + p.2 ≤ z
  | [], _, _, i, p, hp => by simp at hp
  | (x, n) :: r, a, h, 0, p, hp => by
    simp at hp
    subst hp
    exact ⟨h.2.1, h.1, h.2.2.1⟩
  | (x, n) :: r, a, h, i + 1, p, hp => by
    obtain ⟨h1, h2, h3, h4⟩ := h
    have := rises_at h4 i p (by simpa using hp)
    exact ⟨this.1, by omega, this.2.2⟩
theorem rises_next {z : Nat} : ∀ {l : List (Nat × Nat)} {a : Nat} (_ : Rises z a l) (i : Nat) (p q : Nat × Nat), l[i]? = some p → l[i + 1]? = some q → p.1 + p.2 < q.1
  | [], _, _, i, p, q, hp, _ => by simp at hp
  | (x, n) :: r, a, h, 0, p, q, hp, hq => by
    simp at hp
    subst hp
    obtain ⟨h1, h2, h3, h4⟩ := h
    have := rises_at h4 0 q (by simpa using hq)
    simp only; omega
  | (x, n) :: r, a, h, i + 1, p, q, hp, hq => by
    obtain ⟨h1, h2, h3, h4⟩ := h
    exact rises_next h4 i p q (by simpa using hp) (by simpa using hq)
theorem rises_len {z : Nat} : ∀ {l : List (Nat × Nat)} {a : Nat} (_ : Rises z a l), l = [] ∨ a + l.length ≤ z
  | [], _, _ => .inl rfl
  | (x, n) :: r, a, h => by
    obtain ⟨h1, h2, h3, h4⟩ := h
    rcases rises_len h4 with h5 | h5
    · subst h5; right; simp only [List.length_cons, List.length_nil]; omega
    · right; simp only [List.length_cons]; omega
theorem take_snoc {α : Type} (l : List α) (i : Nat) (p : α) (h : l[i]? = some p) : l.take (i + 1) = l.take i ++ [p] := by
  rw [List.take_add_one, h]; rfl
theorem sumR_app : ∀ (l r : List (Nat × Nat)), sumR (l ++ r) = sumR l + sumR r
  | [], r => by simp [sumR]
  | p :: l, r => by rw [List.cons_append, sumR, sumR, sumR_app l r]; omega
theorem sumR_snoc (l : List (Nat × Nat)) (i : Nat) (p : Nat × Nat) (h : l[i]? = some p) : sumR (l.take (i + 1)) = sumR (l.take i) + p.2 := by
  rw [take_snoc l i p h, sumR_app]; rfl
theorem isIn_snoc (k : Nat) (l : List (Nat × Nat)) (i : Nat) (p : Nat × Nat) (h : l[i]? = some p) : isIn k (l.take (i + 1)) = (isIn k (l.take i) || decide (p.1 ≤ k ∧ k < p.1 + p.2)) := by
  rw [take_snoc l i p h]; simp [isIn]
theorem lowR_app (n : Int) : ∀ (l r : List (Nat × Nat)), lowR n (l ++ r) = match lowR n l with | some a => some a | none => lowR n r
  | [], r => rfl
  | (a, m) :: l, r => by
    rw [List.cons_append, lowR, lowR]
    split
    · rfl
    · exact lowR_app n l r
theorem lowR_snoc (n : Int) (l : List (Nat × Nat)) (i : Nat) (p : Nat × Nat) (h : l[i]? = some p) : lowR n (l.take (i + 1)) = match lowR n (l.take i) with | some a => some a | none => if 0 < n ∧ n ≤ (p.2 : Int) then some p.1 else none := by
  rw [take_snoc l i p h, lowR_app]
  obtain ⟨a, m⟩ := p
  rfl
def cntIn (l : List (Nat × Nat)) : Nat → Nat
  | 0 => 0
  | k + 1 => cntIn l k + (bif isIn k l then 1 else 0)
theorem cntIn_runs (f : Nat → Bool) (a k : Nat) : ∀ m, cntIn (runs f a k) m = leftU f a (min (m - a) k)
  | 0 => by simp [cntIn, leftU]
  | m + 1 => by
    rw [cntIn, cntIn_runs f a k m, runs_in]
    by_cases h : a ≤ m ∧ m < a + k
    · rw [show min (m + 1 - a) k = min (m - a) k + 1 by omega, leftU, decide_eq_true h, Bool.true_and, show a + min (m - a) k = m by omega]
      cases f m <;> rfl
    · rw [decide_eq_false h, Bool.false_and, show min (m + 1 - a) k = min (m - a) k by omega]; rfl
theorem cntIn_le (l : List (Nat × Nat)) : ∀ m, cntIn l m ≤ m
  | 0 => Nat.le_refl _
  | m + 1 => by
    have := cntIn_le l m
    rw [cntIn]
    cases isIn m l <;> simp <;> omega
theorem sumR_le {z : Nat} : ∀ {l : List (Nat × Nat)} {a : Nat} (_ : Rises z a l), a ≤ z + 1 → sumR l ≤ z + 1 - a
  | [], _, _, _ => by simp [sumR]
  | (x, n) :: r, a, h, _ => by
    obtain ⟨h1, h2, h3, h4⟩ := h
    have := sumR_le h4 (by omega)
    rw [sumR]; simp only; omega
theorem rises_take {z : Nat} : ∀ {l : List (Nat × Nat)} {a : Nat} (_ : Rises z a l) (i : Nat), Rises z a (l.take i)
  | [], _, _, i => by simp [Rises]
  | (x, n) :: r, a, h, 0 => trivial
  | (x, n) :: r, a, h, i + 1 => by
    obtain ⟨h1, h2, h3, h4⟩ := h
    exact ⟨h1, h2, h3, rises_take h4 i⟩
end Go.Proofs.Ytafbkdpheneceaa
namespace Go.Proofs.Ytafbkdpheneceaa
open Go.RowKit

/-! assaylaw08's Op: four numbers -/
structure Op8 where
  k : Int
  on : Int
  a : Int
  b : Int
def op8A (o : Op8) : Array Value := #[.int .i64 o.k, .int .i64 o.on, .int .i64 o.a, .int .i64 o.b]
def op8Z : Op8 := ⟨0, 0, 0, 0⟩
@[go_sem] theorem op8A_size (o : Op8) : (op8A o).size = 4 := by unfold op8A; simp
theorem op8A_one (o : Op8) : OneC (op8A o) = true := by simp [OneC, op8A, Value.oneCell']
def opE8 : EK Op8 := { T := 29, S := 22, k := 4, bytes := 32, z := .agg (op8A op8Z), enc := fun o => (op8A o).toList }
theorem opE8_enc (o : Op8) : opE8.enc o = (op8A o).toList := by simp only [opE8]
theorem opE8_k : opE8.k = 4 := rfl
theorem opE8_ok : opE8.Ok where
  len x := by rw [opE8_enc, Array.length_toList, op8A_size]; rfl
  one x v hv := by
    have h := op8A_one x
    unfold OneC at h
    exact Array.all_eq_true_iff_forall_mem.1 h v (by rw [opE8_enc] at hv; simpa using hv)
  und := Try.underlying22
  info := by
    have h : (Try.prog.info? 29).map (fun i => (i.zero, i.size, i.bytes)) = some (some (.agg (op8A op8Z)), 4, 32) := by kernel_rfl
    exact h
  zc := by show (op8A op8Z).size = 4; simp [op8A]
  kp := by show 0 < 4; omega
  row := ⟨_, Try.underlying29, rfl⟩
def Op8.Ok (o : Op8) : Prop := i64 o.k ∧ i64 o.on ∧ i64 o.a ∧ i64 o.b
theorem op8_cells {w : World} {b o : Nat} {x : Op8} (h : w.rangeAt b o (opE8.enc x)) : w.cell? ⟨b, o, none⟩ = some (.int .i64 x.k) ∧ w.cell? ⟨b, o + 1, none⟩ = some (.int .i64 x.on) ∧ w.cell? ⟨b, o + 2, none⟩ = some (.int .i64 x.a) ∧ w.cell? ⟨b, o + 3, none⟩ = some (.int .i64 x.b) := by
  rw [opE8_enc] at h
  exact ⟨h 0 _ rfl, h 1 _ rfl, h 2 _ rfl, h 3 _ rfl⟩
theorem pr_cells {w : World} {b o : Nat} {p : Pr} (h : w.rangeAt b o (prE.enc p)) : w.cell? ⟨b, o, none⟩ = some (.int .i64 p.1) ∧ w.cell? ⟨b, o + 1, none⟩ = some (.int .i64 p.2) := by
  rw [prE_enc] at h
  exact ⟨h 0 _ rfl, h 1 _ rfl⟩
theorem rI_at {l : List (Nat × Nat)} {i : Nat} {p : Nat × Nat} (h : l[i]? = some p) : (rI l)[i]? = some ((p.1 : Int), (p.2 : Int)) := by simp [rI, h]
theorem slice_block {y : Option Addr} {n c : Nat} {W : World} {B : Nat} {ds : List Pr} (h : OwnK prE W B (.slice y n c) ds) (h0 : 0 < ds.length) : ∃ g, y = some ⟨g, 0, none⟩ := by
  obtain ⟨g, hg, -⟩ := h.form h0
  exact ⟨g, hg⟩
end Go.Proofs.Ytafbkdpheneceaa
namespace Go.Proofs.Ytafbkdpheneceaa

/-! What is held: ranges apart from one another -/
theorem runs_congr {f h : Nat → Bool} : ∀ (k a : Nat), (∀ i, a ≤ i → i < a + k → f i = h i) → runs f a k = runs h a k
  | 0, _, _ => rfl
  | k + 1, a, e => by
    rw [runs, runs, runs_congr k (a + 1) (fun i h1 h2 => e i (by omega) (by omega)), e a (Nat.le_refl _) (by omega)]
theorem lowR_mem (n : Int) : ∀ (l : List (Nat × Nat)) (a : Nat), lowR n l = some a → 0 < n ∧ ∃ m, (a, m) ∈ l ∧ n ≤ (m : Int)
  | [], a, h => by simp [lowR] at h
  | (x, m) :: r, a, h => by
    rw [lowR] at h
    split at h
    · rename_i hc
      cases h
      exact ⟨hc.1, m, by simp, hc.2⟩
    · obtain ⟨h1, m', h2, h3⟩ := lowR_mem n r a h
      exact ⟨h1, m', by simp [h2], h3⟩
theorem isIn_mem {l : List (Nat × Nat)} {a m i : Nat} (h : (a, m) ∈ l) (h1 : a ≤ i) (h2 : i < a + m) : isIn i l = true := by
  unfold isIn
  rw [List.any_eq_true]
  exact ⟨(a, m), h, by simp [h1, h2]⟩
/-- Where Lowest says, there are so many free ones. -/
theorem low_spec (st : XSt) (n : Int) (a : Nat) (h : xLow st n = some a) : 0 < n ∧ st.fr ≤ a ∧ (a : Int) + n ≤ (st.fr + (st.hi - st.fr) : Nat) ∧ ∀ i, i < n.toNat → st.f (a + i) = false := by
  obtain ⟨h1, m, h2, h3⟩ := lowR_mem n _ a h
  have key : ∀ i, i < m → st.fr ≤ a + i ∧ a + i < st.fr + (st.hi - st.fr) ∧ st.f (a + i) = false := fun i hi => by
    have hin := isIn_mem h2 (show a ≤ a + i by omega) (by omega)
    unfold xRuns at hin
    rw [runs_in, Bool.and_eq_true, decide_eq_true_iff] at hin
    exact ⟨hin.1.1, hin.1.2, by simpa using hin.2⟩
  have hm : 0 < m := by omega
  have k0 := key 0 hm
  have k1 := key (m - 1) (by omega)
  exact ⟨h1, by omega, by omega, fun i hi => (key i (by omega)).2.2⟩
theorem xOk_yes (st : XSt) (a n : Int) (b : Bool) (h0 : 0 < n) (h1 : (st.fr : Int) ≤ a) (h2 : a + n ≤ (st.hi : Int)) (h3 : ∀ i, i < n.toNat → st.f (a.toNat + i) = !b) : xOk st a n b = true := by
  unfold xOk
  rw [Bool.or_eq_true, Bool.and_eq_true, allU_iff]
  exact .inr ⟨by simp; omega, h3⟩
theorem xOk_no (st : XSt) (a : Int) (b : Bool) (h : st.f a.toNat = b) : xOk st a 1 b = false := by
  rw [Bool.eq_false_iff]
  intro hy
  unfold xOk at hy
  rw [Bool.or_eq_true, Bool.and_eq_true, allU_iff] at hy
  rcases hy with hy | hy
  · simp at hy
  · have := hy.2 0 (by simp)
    rw [Nat.add_zero, h] at this
    cases b <;> cases this
theorem xTurn_no (st : XSt) (a n : Int) (b : Bool) (h : xOk st a n b = false) : xTurn st a n b = st := by
  unfold xTurn; rw [h]; rfl
def inP (p : Nat × Nat) (i : Nat) : Bool := decide (p.1 ≤ i ∧ i < p.1 + p.2)
/-- Hld8 of 200 sectors: hs, each apart from the others and from what was there. -/
structure Hld8 (st : XSt) (hs : List (Nat × Nat)) : Prop where
  fr : st.fr = 0
  hi : st.hi = 200
  pos : ∀ p ∈ hs, 1 ≤ p.2 ∧ p.1 + p.2 ≤ 200
  f : ∀ i, i < 200 → (st.f i = true ↔ (50 ≤ i ∧ i < 57) ∨ ∃ p ∈ hs, inP p i = true)
  off : ∀ p ∈ hs, ∀ i, inP p i = true → ¬ (50 ≤ i ∧ i < 57)
  apart : ∀ (j k : Nat) p q, hs[j]? = some p → hs[k]? = some q → j ≠ k → ∀ i, inP p i = true → inP q i = true → False
theorem inP_iff (p : Nat × Nat) (i : Nat) : inP p i = true ↔ p.1 ≤ i ∧ i < p.1 + p.2 := by simp [inP]
theorem Hld8.more {st : XSt} {hs : List (Nat × Nat)} (h : Hld8 st hs) (a n : Nat) (hn : 0 < n) (hz : a + n ≤ 200) (hf : ∀ i, i < n → st.f (a + i) = false) :
    xOk st (a : Int) (n : Int) true = true ∧ Hld8 (xTurn st (a : Int) (n : Int) true) (hs ++ [(a, n)]) ∧ (xTurn st (a : Int) (n : Int) true).f a = true := by
  have hok : xOk st (a : Int) (n : Int) true = true := xOk_yes st _ _ _ (by omega) (by rw [h.fr]; omega) (by rw [h.hi]; omega) (fun i hi => by simpa using hf i (by omega))
  have e : xTurn st (a : Int) (n : Int) true = { st with f := fun i => if (a : Int) ≤ (i : Int) ∧ (i : Int) < (a : Int) + (n : Int) then true else st.f i } := by unfold xTurn; rw [hok]; rfl
  have hnew : ∀ i, inP (a, n) i = true → st.f i = false := fun i hi => by
    rw [inP_iff] at hi
    have := hf (i - a) (by simp only at hi; omega)
    rwa [show a + (i - a) = i by simp only at hi; omega] at this
  have hold : ∀ p ∈ hs, ∀ i, inP p i = true → inP (a, n) i = true → False := fun p hp i h1 h2 => by
    have h3 := hnew i h2
    have h4 := (inP_iff p i).1 h1
    have h5 := (h.pos p hp).2
    rw [(h.f i (by omega)).2 (.inr ⟨p, hp, h1⟩)] at h3
    cases h3
  refine ⟨hok, ?_, by rw [e]; simp; omega⟩
  rw [e]
  refine ⟨h.fr, h.hi, ?_, ?_, ?_, ?_⟩
  · intro p hp
    rcases List.mem_append.1 hp with hp | hp
    · exact h.pos p hp
    · simp at hp; subst hp; exact ⟨hn, hz⟩
  · intro i hi
    simp only
    by_cases hin : inP (a, n) i = true
    · have hin' := (inP_iff _ _).1 hin
      simp only at hin'
      rw [if_pos (by omega)]
      exact ⟨fun _ => .inr ⟨(a, n), by simp, hin⟩, fun _ => rfl⟩
    · have hin' : ¬ (a ≤ i ∧ i < a + n) := fun hh => hin ((inP_iff _ _).2 hh)
      rw [if_neg (by omega), h.f i hi]
      constructor
      · rintro (hh | ⟨p, hp, hpi⟩)
        · exact .inl hh
        · exact .inr ⟨p, by simp [hp], hpi⟩
      · rintro (hh | ⟨p, hp, hpi⟩)
        · exact .inl hh
        · rcases List.mem_append.1 hp with hp | hp
          · exact .inr ⟨p, hp, hpi⟩
          · simp at hp; subst hp; exact absurd hpi hin
  · intro p hp i hpi
    rcases List.mem_append.1 hp with hp | hp
    · exact h.off p hp i hpi
    · simp at hp; subst hp
      intro h57
      have h3 := hnew i hpi
      rw [(h.f i (by omega)).2 (.inl h57)] at h3
      cases h3
  · intro j k p q hj hk hne i h1 h2
    rw [List.getElem?_append] at hj hk
    split at hj <;> split at hk
    · exact h.apart j k p q hj hk hne i h1 h2
    · have : q = (a, n) := by
        rcases hz' : k - hs.length with _ | m
        · rw [hz'] at hk; simp at hk; exact hk.symm
        · rw [hz'] at hk; simp at hk
      subst this
      exact hold p (List.mem_of_getElem? hj) i h1 h2
    · have : p = (a, n) := by
        rcases hz' : j - hs.length with _ | m
        · rw [hz'] at hj; simp at hj; exact hj.symm
        · rw [hz'] at hj; simp at hj
      subst this
      exact hold q (List.mem_of_getElem? hk) i h2 h1
    · exfalso
      rcases hz1 : j - hs.length with _ | m1
      · rcases hz2 : k - hs.length with _ | m2
        · omega
        · rw [hz2] at hk; simp at hk
      · rw [hz1] at hj; simp at hj
theorem Hld8.less {st : XSt} {hs : List (Nat × Nat)} (h : Hld8 st hs) (j a n : Nat) (hj : hs[j]? = some (a, n)) :
    xOk st (a : Int) (n : Int) false = true ∧ Hld8 (xTurn st (a : Int) (n : Int) false) (hs.take j ++ hs.drop (j + 1)) ∧ (xTurn st (a : Int) (n : Int) false).f a = false := by
  have hm := List.mem_of_getElem? hj
  have hp := h.pos _ hm
  simp only at hp
  have hok : xOk st (a : Int) (n : Int) false = true := xOk_yes st _ _ _ (by omega) (by rw [h.fr]; omega) (by rw [h.hi]; omega) (fun i hi => by
    rw [Int.toNat_natCast]
    exact (h.f (a + i) (by omega)).2 (.inr ⟨(a, n), hm, (inP_iff _ _).2 (by simp only; omega)⟩))
  have e : xTurn st (a : Int) (n : Int) false = { st with f := fun i => if (a : Int) ≤ (i : Int) ∧ (i : Int) < (a : Int) + (n : Int) then false else st.f i } := by unfold xTurn; rw [hok]; rfl
  have hlt := (List.getElem?_eq_some_iff.1 hj).1
  have hat : ∀ i : Nat, (hs.take j ++ hs.drop (j + 1))[i]? = hs[if i < j then i else i + 1]? := fun i => by
    rw [List.getElem?_append, List.length_take, show min j hs.length = j by omega]
    by_cases hi : i < j
    · rw [if_pos hi, if_pos hi, List.getElem?_take, if_pos hi]
    · rw [if_neg hi, if_neg hi, List.getElem?_drop, show j + 1 + (i - j) = i + 1 by omega]
  have hmem : ∀ p, p ∈ hs.take j ++ hs.drop (j + 1) ↔ ∃ k, k ≠ j ∧ hs[k]? = some p := fun p => by
    rw [List.mem_iff_getElem?]
    constructor
    · rintro ⟨i, hi⟩
      rw [hat] at hi
      exact ⟨_, by split <;> omega, hi⟩
    · rintro ⟨k, hk, hp⟩
      by_cases hkj : k < j
      · exact ⟨k, by rw [hat, if_pos hkj]; exact hp⟩
      · exact ⟨k - 1, by rw [hat, if_neg (by omega), show k - 1 + 1 = k by omega]; exact hp⟩
  refine ⟨hok, ?_, by rw [e]; simp; omega⟩
  rw [e]
  refine ⟨h.fr, h.hi, ?_, ?_, ?_, ?_⟩
  · intro p hp'
    obtain ⟨k, _, hk⟩ := (hmem p).1 hp'
    exact h.pos p (List.mem_of_getElem? hk)
  · intro i hi
    simp only
    by_cases hin : inP (a, n) i = true
    · have hin' := (inP_iff _ _).1 hin
      simp only at hin'
      rw [if_pos (by omega)]
      constructor
      · intro hh; cases hh
      · rintro (hh | ⟨p, hp', hpi⟩)
        · exact absurd hh (h.off _ hm i hin)
        · obtain ⟨k, hkj, hk⟩ := (hmem p).1 hp'
          exact (h.apart k j p (a, n) hk hj hkj i hpi hin).elim
    · have hin' : ¬ (a ≤ i ∧ i < a + n) := fun hh => hin ((inP_iff _ _).2 hh)
      rw [if_neg (by omega), h.f i hi]
      constructor
      · rintro (hh | ⟨p, hp', hpi⟩)
        · exact .inl hh
        · obtain ⟨k, hk⟩ := List.mem_iff_getElem?.1 hp'
          by_cases hkj : k = j
          · subst hkj; rw [hj] at hk; cases hk; exact absurd hpi hin
          · exact .inr ⟨p, (hmem p).2 ⟨k, hkj, hk⟩, hpi⟩
      · rintro (hh | ⟨p, hp', hpi⟩)
        · exact .inl hh
        · obtain ⟨k, _, hk⟩ := (hmem p).1 hp'
          exact .inr ⟨p, List.mem_of_getElem? hk, hpi⟩
  · intro p hp' i hpi
    obtain ⟨k, _, hk⟩ := (hmem p).1 hp'
    exact h.off p (List.mem_of_getElem? hk) i hpi
  · intro j' k' p q hj' hk' hne i h1 h2
    rw [hat] at hj' hk'
    exact h.apart _ _ p q hj' hk' (by split <;> split <;> omega) i h1 h2
def x200 : XSt := xTurn ⟨0, 200, fun _ => false⟩ 50 7 true
theorem x200_ok : xOk ⟨0, 200, fun _ => false⟩ 50 7 true = true := by decide +kernel
theorem x200_f (i : Nat) : x200.f i = decide (50 ≤ i ∧ i < 57) := by
  unfold x200 xTurn
  rw [x200_ok]
  simp only [if_true]
  by_cases h : 50 ≤ i ∧ i < 57
  · rw [if_pos (by omega), decide_eq_true h]
  · rw [if_neg (by omega), decide_eq_false h]
theorem x200_ends : x200.fr = 0 ∧ x200.hi = 200 := by
  have := xTurn_ends ⟨0, 200, fun _ => false⟩ 50 7 true
  exact this
theorem held_zero : Hld8 x200 [] :=
  ⟨x200_ends.1, x200_ends.2, fun p hp => by simp at hp, fun i hi => by rw [x200_f]; simp, fun p hp => by simp at hp, fun j k p q hj => by simp at hj⟩
theorem held_none {st : XSt} (h : Hld8 st []) : xRuns st = xRuns x200 := by
  unfold xRuns
  rw [h.fr, h.hi, x200_ends.1, x200_ends.2]
  refine runs_congr _ _ fun i _ hi => ?_
  rw [Bool.eq_iff_iff, h.f i (by omega), x200_f]
  simp
end Go.Proofs.Ytafbkdpheneceaa
