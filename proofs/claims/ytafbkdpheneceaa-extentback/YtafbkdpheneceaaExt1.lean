
import Derived.Test.YtafbkdpheneceaaExt0
import Derived.Test.YtafbkdpheneceaaExtM
namespace Go.Proofs.Ytafbkdpheneceaa
open Go.RowKit

/-! What extent owes, whatever it is made of: X w v st F: at w the extent v is in the state st; it lies in the blocks F, and it may turn no others. -/
def rI (l : List (Nat × Nat)) : List Pr := l.map fun p => ((p.1 : Int), (p.2 : Int))
theorem rI_len (l : List (Nat × Nat)) : (rI l).length = l.length := by simp [rI]
def XStep (X : World → Value → XSt → List Nat → Prop) (F : List Nat) (w : World) (v : Value) (st : XSt) (w' : World) : Prop := ∃ F', X w' v st F' ∧ (∀ q ∈ F', q ∈ F ∨ w.heap.size ≤ q) ∧ Keep F w w'
def i64 (a : Int) : Prop := -9223372036854775808 ≤ a ∧ a ≤ 9223372036854775807
structure ExtOk (X : World → Value → XSt → List Nat → Prop) : Prop where
  keeps : ∀ {w w' v st F G}, X w v st F → Keep G w w' → (∀ q ∈ F, q ∉ G) → X w' v st F
  lt : ∀ {w v st F}, X w v st F → ∀ q ∈ F, q < w.heap.size
  ok : ∀ {w v st F}, X w v st F → st.fr ≤ st.hi ∧ st.hi ≤ 1024
  ptr : ∀ {w v st F}, X w v st F → ∃ a, v = .pointer (some a)
  new : ∀ w (a b : Int), i64 a → i64 b → Calls Try.prog 6 #[.int .i64 a, .int .i64 b] w fun e w' => Below w.heap.size w w' ∧
    ((0 ≤ a ∧ a ≤ b ∧ b ≤ 1024 ∧ ∃ v F, e = .returned (.tuple #[v, .int .i64 0]) ∧ X w' v ⟨a.toNat, b.toNat, fun _ => false⟩ F ∧ ∀ q ∈ F, w.heap.size ≤ q) ∨ (¬ (0 ≤ a ∧ a ≤ b ∧ b ≤ 1024) ∧ e = .returned (.tuple #[.pointer none, .int .i64 1])))
  take : ∀ w v st F (a n : Int), X w v st F → i64 a → i64 n → Calls Try.prog 8 #[v, .int .i64 a, .int .i64 n] w fun e w' => e = .returned (.bool (xOk st a n true)) ∧ XStep X F w v (xTurn st a n true) w'
  free : ∀ w v st F (a n : Int), X w v st F → i64 a → i64 n → Calls Try.prog 9 #[v, .int .i64 a, .int .i64 n] w fun e w' => e = .returned (.bool (xOk st a n false)) ∧ XStep X F w v (xTurn st a n false) w'
  taken : ∀ w v st F (a : Int), X w v st F → i64 a → Calls Try.prog 11 #[v, .int .i64 a] w fun e w' => e = .returned (.bool (xTaken st a)) ∧ XStep X F w v st w'
  lowest : ∀ w v st F (n : Int), X w v st F → i64 n → Calls Try.prog 12 #[v, .int .i64 n] w fun e w' => e = .returned (.tuple #[.int .i64 ((xLow st n).getD 0 : Nat), .bool (xLow st n).isSome]) ∧ XStep X F w v st w'
  left : ∀ w v st F, X w v st F → Calls Try.prog 13 #[v] w fun e w' => e = .returned (.int .i64 (xLeft st : Nat)) ∧ XStep X F w v st w'
  ranges : ∀ w v st F, X w v st F → Calls Try.prog 10 #[v] w fun e w' => ∃ y c F', e = .returned (.slice y (xRuns st).length c) ∧ OwnK prE w' w.heap.size (.slice y (xRuns st).length c) (rI (xRuns st)) ∧ X w' v st F' ∧ (∀ q ∈ F', q ∈ F ∨ w.heap.size ≤ q) ∧ (∀ q, (Value.slice y (xRuns st).length c).ownBlock = some q → q ∉ F') ∧ Keep F w w'
  copy : ∀ w v st F, X w v st F → Calls Try.prog 18 #[v] w fun e w' => ∃ v' F' F'', e = .returned v' ∧ X w' v st F' ∧ X w' v' st F'' ∧ (∀ q ∈ F', q ∈ F ∨ w.heap.size ≤ q) ∧ (∀ q ∈ F'', w.heap.size ≤ q ∧ q ∉ F') ∧ Keep F w w'
/-- What the calls owe on an extent that is none. -/
structure ExtNil : Prop where
  take : ∀ w (a n : Int), Calls Try.prog 8 #[.pointer none, .int .i64 a, .int .i64 n] w fun e w' => e = .returned (.bool false) ∧ Below w.heap.size w w'
  free : ∀ w (a n : Int), Calls Try.prog 9 #[.pointer none, .int .i64 a, .int .i64 n] w fun e w' => e = .returned (.bool false) ∧ Below w.heap.size w w'
  taken : ∀ w (a : Int), Calls Try.prog 11 #[.pointer none, .int .i64 a] w fun e w' => e = .returned (.bool false) ∧ Below w.heap.size w w'
  lowest : ∀ w (n : Int), Calls Try.prog 12 #[.pointer none, .int .i64 n] w fun e w' => (∃ a, e = .returned (.tuple #[.int .i64 a, .bool false])) ∧ Below w.heap.size w w'
  left : ∀ w, Calls Try.prog 13 #[.pointer none] w fun e w' => e = .returned (.int .i64 0) ∧ Below w.heap.size w w'
  ranges : ∀ w, Calls Try.prog 10 #[.pointer none] w fun e w' => (∃ y c, e = .returned (.slice y 0 c)) ∧ Below w.heap.size w w'
  copy : ∀ w, Calls Try.prog 18 #[.pointer none] w fun e w' => e = .returned (.pointer none) ∧ Below w.heap.size w w'
/-- One extent, newer than B; the blocks A are none of its. -/
def XAt (X : World → Value → XSt → List Nat → Prop) (B : Nat) (A : List Nat) (W : World) (v : Value) (st : XSt) : Prop := ∃ F, X W v st F ∧ (∀ q ∈ F, B ≤ q) ∧ ∀ a ∈ A, a ∉ F ∧ a < W.heap.size
/-- What has turned is none of the blocks A. -/
def KeepA (A : List Nat) (w w' : World) : Prop := ∃ F, Keep F w w' ∧ ∀ a ∈ A, a ∉ F
section
variable {X : World → Value → XSt → List Nat → Prop}
theorem XAt.step {B : Nat} {A : List Nat} {W W' : World} {v : Value} {st' : XSt} {F : List Nat} (hF : ∀ q ∈ F, B ≤ q) (hA : ∀ a ∈ A, a ∉ F ∧ a < W.heap.size) (hB : B ≤ W.heap.size) (hs : XStep X F W v st' W') : XAt X B A W' v st' ∧ Below B W W' ∧ KeepA A W W' := by
  obtain ⟨F', h1, h2, h3⟩ := hs
  refine ⟨⟨F', h1, fun q hq => (h2 q hq).elim (hF q) (fun h => by omega), fun a ha => ⟨fun hm => ?_, Nat.lt_of_lt_of_le (hA a ha).2 h3.size⟩⟩, h3.below hF hB, F, h3, fun a ha => (hA a ha).1⟩
  have := hA a ha
  exact (h2 a hm).elim this.1 (fun h => by omega)
theorem XAt.ptr {B : Nat} {A : List Nat} {W : World} {v : Value} {st : XSt} (O : ExtOk X) (h : XAt X B A W v st) : ∃ a, v = .pointer (some a) := by
  obtain ⟨F, h1, -, -⟩ := h
  exact O.ptr h1
theorem XAt.take {B : Nat} {A : List Nat} {W : World} {v : Value} {st : XSt} (O : ExtOk X) (h : XAt X B A W v st) (hB : B ≤ W.heap.size) (a n : Int) (ha : i64 a) (hn : i64 n) :
    Calls Try.prog 8 #[v, .int .i64 a, .int .i64 n] W fun e w' => e = .returned (.bool (xOk st a n true)) ∧ XAt X B A w' v (xTurn st a n true) ∧ Below B W w' ∧ KeepA A W w' := by
  obtain ⟨F, h1, h2, h3⟩ := h
  exact (O.take W v st F a n h1 ha hn).mono fun e w' hh => ⟨hh.1, XAt.step h2 h3 hB hh.2⟩
theorem XAt.free {B : Nat} {A : List Nat} {W : World} {v : Value} {st : XSt} (O : ExtOk X) (h : XAt X B A W v st) (hB : B ≤ W.heap.size) (a n : Int) (ha : i64 a) (hn : i64 n) :
    Calls Try.prog 9 #[v, .int .i64 a, .int .i64 n] W fun e w' => e = .returned (.bool (xOk st a n false)) ∧ XAt X B A w' v (xTurn st a n false) ∧ Below B W w' ∧ KeepA A W w' := by
  obtain ⟨F, h1, h2, h3⟩ := h
  exact (O.free W v st F a n h1 ha hn).mono fun e w' hh => ⟨hh.1, XAt.step h2 h3 hB hh.2⟩
theorem XAt.taken {B : Nat} {A : List Nat} {W : World} {v : Value} {st : XSt} (O : ExtOk X) (h : XAt X B A W v st) (hB : B ≤ W.heap.size) (a : Int) (ha : i64 a) :
    Calls Try.prog 11 #[v, .int .i64 a] W fun e w' => e = .returned (.bool (xTaken st a)) ∧ XAt X B A w' v st ∧ Below B W w' ∧ KeepA A W w' := by
  obtain ⟨F, h1, h2, h3⟩ := h
  exact (O.taken W v st F a h1 ha).mono fun e w' hh => ⟨hh.1, XAt.step h2 h3 hB hh.2⟩
theorem XAt.lowest {B : Nat} {A : List Nat} {W : World} {v : Value} {st : XSt} (O : ExtOk X) (h : XAt X B A W v st) (hB : B ≤ W.heap.size) (n : Int) (hn : i64 n) :
    Calls Try.prog 12 #[v, .int .i64 n] W fun e w' => e = .returned (.tuple #[.int .i64 ((xLow st n).getD 0 : Nat), .bool (xLow st n).isSome]) ∧ XAt X B A w' v st ∧ Below B W w' ∧ KeepA A W w' := by
  obtain ⟨F, h1, h2, h3⟩ := h
  exact (O.lowest W v st F n h1 hn).mono fun e w' hh => ⟨hh.1, XAt.step h2 h3 hB hh.2⟩
theorem XAt.left {B : Nat} {A : List Nat} {W : World} {v : Value} {st : XSt} (O : ExtOk X) (h : XAt X B A W v st) (hB : B ≤ W.heap.size) :
    Calls Try.prog 13 #[v] W fun e w' => e = .returned (.int .i64 (xLeft st : Nat)) ∧ XAt X B A w' v st ∧ Below B W w' ∧ KeepA A W w' := by
  obtain ⟨F, h1, h2, h3⟩ := h
  exact (O.left W v st F h1).mono fun e w' hh => ⟨hh.1, XAt.step h2 h3 hB hh.2⟩
theorem XAt.ranges {B : Nat} {A : List Nat} {W : World} {v : Value} {st : XSt} (O : ExtOk X) (h : XAt X B A W v st) (hB : B ≤ W.heap.size) :
    Calls Try.prog 10 #[v] W fun e w' => ∃ y c A', e = .returned (.slice y (xRuns st).length c) ∧ OwnK prE w' B (.slice y (xRuns st).length c) (rI (xRuns st)) ∧ XAt X B (A' ++ A) w' v st ∧ (∀ q, (Value.slice y (xRuns st).length c).ownBlock = some q → q ∈ A') ∧ (∀ q ∈ A', W.heap.size ≤ q) ∧ Below B W w' ∧ KeepA A W w' := by
  obtain ⟨F, h1, h2, h3⟩ := h
  refine (O.ranges W v st F h1).mono ?_
  rintro e w' ⟨y, c, F', rfl, hO, hX, hF', hnot, hK⟩
  obtain ⟨⟨F2, g1, g2, g3⟩, hB2, hKA⟩ := XAt.step h2 h3 hB ⟨F', hX, hF', hK⟩
  refine ⟨y, c, (Value.slice y (xRuns st).length c).ownBlock.toList, rfl, hO.le hB, ⟨F', hX, fun q hq => (hF' q hq).elim (h2 q) (fun h => by omega), ?_⟩, fun q hq => by rw [hq]; simp, ?_, hB2, hKA⟩
  · intro a ha
    rcases List.mem_append.1 ha with ha | ha
    · have ha' : (Value.slice y (xRuns st).length c).ownBlock = some a := by simpa using ha
      exact ⟨hnot a ha', (World.ownsRow.lt hO a ha').2⟩
    · refine ⟨fun hm => ?_, Nat.lt_of_lt_of_le (h3 a ha).2 hK.size⟩
      exact (hF' a hm).elim (h3 a ha).1 (fun h => by have := (h3 a ha).2; omega)
  · intro q hq
    have hq' : (Value.slice y (xRuns st).length c).ownBlock = some q := by simpa using hq
    exact (World.ownsRow.lt hO q hq').1
theorem XAt.later {B : Nat} {A : List Nat} {W W' : World} {v : Value} {st : XSt} (O : ExtOk X) (h : XAt X B A W v st) (hb : Below W.heap.size W W') : XAt X B A W' v st := by
  obtain ⟨F, h1, h2, h3⟩ := h
  exact ⟨F, O.keeps (G := []) h1 (Keep.of_below hb) (fun _ _ => by simp), h2, fun a ha => ⟨(h3 a ha).1, Nat.lt_of_lt_of_le (h3 a ha).2 hb.size⟩⟩
/-- A block of A's turns; new ones come. -/
theorem XAt.grown {B : Nat} {A : List Nat} {W W' : World} {v : Value} {st : XSt} {row : Option Nat} (O : ExtOk X) (h : XAt X B A W v st) (hg : W.grownBy W' row) (hr : ∀ q, row = some q → q ∈ A) : XAt X B A W' v st := by
  obtain ⟨F, h1, h2, h3⟩ := h
  exact ⟨F, O.keeps (G := row.toList) h1 (Keep.of_grown hg (fun q hq => by rw [hq]; simp)) (fun q hq hm => by
    have hm' : row = some q := by simpa using hm
    exact (h3 q (hr q hm')).1 hq), h2, fun a ha => ⟨(h3 a ha).1, Nat.lt_of_lt_of_le (h3 a ha).2 hg.size⟩⟩
/-- New blocks are none of its. -/
theorem XAt.more {B : Nat} {A : List Nat} {W W' : World} {v : Value} {st : XSt} {row : Option Nat} (O : ExtOk X) (h : XAt X B A W v st) (hg : W.grownBy W' row) (hr : ∀ q, row = some q → q ∈ A) (A' : List Nat) (hA' : ∀ a ∈ A', a ∈ A ∨ (W.heap.size ≤ a ∧ a < W'.heap.size)) : XAt X B A' W' v st := by
  obtain ⟨F, h1, h2, h3⟩ := h
  refine ⟨F, O.keeps (G := row.toList) h1 (Keep.of_grown hg (fun q hq => by rw [hq]; simp)) (fun q hq hm => by
    have hm' : row = some q := by simpa using hm
    exact (h3 q (hr q hm')).1 hq), h2, fun a ha => ?_⟩
  rcases hA' a ha with h | h
  · exact ⟨(h3 a h).1, Nat.lt_of_lt_of_le (h3 a h).2 hg.size⟩
  · exact ⟨fun hm => by have := O.lt h1 a hm; omega, h.2⟩
theorem KeepA.own {α : Type} {E : EK α} {A : List Nat} {w w' : World} {B : Nat} {v : Value} {ds : List α} (h : KeepA A w w') (hO : OwnK E w B v ds) (hv : ∀ q, v.ownBlock = some q → q ∈ A) : OwnK E w' B v ds := by
  obtain ⟨F, hK, hA⟩ := h
  exact hO.keeps hK (fun q hq => hA q (hv q hq))
theorem KeepA.mono {A A' : List Nat} {w w' : World} (h : KeepA A w w') (hA : ∀ a ∈ A', a ∈ A) : KeepA A' w w' := by
  obtain ⟨F, hK, hF⟩ := h
  exact ⟨F, hK, fun a ha => hF a (hA a ha)⟩
end
end Go.Proofs.Ytafbkdpheneceaa
