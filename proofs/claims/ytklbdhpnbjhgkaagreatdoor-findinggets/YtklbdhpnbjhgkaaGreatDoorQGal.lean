import Derived.Test.YtklbdhpnbjhgkaaGreatDoorQKel
import Derived.Test.YtklbdhpnbjhgkaaGreatDoorQGenA
import Derived.Test.YtklbdhpnbjhgkaaGreatDoorQRowg
import Derived.Test.YtklbdhpnbjhgkaaGreatDoorQRelk
namespace Go.Proofs.YtklbdhpnbjhgkaaGreatDoor
open Go.RowKit

/-! A game of things: each one holds while none of the blocks that it reads turns; what it writes no other one reads. -/
structure Th where
  P : World → List Nat → List Nat → Prop
  keeps : ∀ {w w' : World} {F R G : List Nat}, P w F R → Keep G w w' → (∀ q ∈ R, q ∉ G) → P w' F R
  sub : ∀ {w : World} {F R : List Nat}, P w F R → ∀ q ∈ F, q ∈ R
  lt : ∀ {w : World} {F R : List Nat}, P w F R → ∀ q ∈ R, q < w.heap.size
/-- Nothing but blocks that are new to B and none of A has turned. -/
def KA (B : Nat) (A : List Nat) (w w' : World) : Prop := ∃ H, Keep H w w' ∧ ∀ q ∈ H, B ≤ q ∧ q ∉ A
theorem KA.of_below {B : Nat} {A : List Nat} {w w' : World} (h : Below w.heap.size w w') : KA B A w w' := ⟨[], Keep.of_below h, fun _ hq => by cases hq⟩
theorem KA.trans {B : Nat} {A : List Nat} {w w1 w2 : World} (h : KA B A w w1) (k : KA B A w1 w2) : KA B A w w2 := by
  obtain ⟨H, h1, h2⟩ := h
  obtain ⟨J, k1, k2⟩ := k
  refine ⟨H ++ J, (h1.mono (fun q hq => .inl (List.mem_append_left _ hq))).trans (k1.mono (fun q hq => .inl (List.mem_append_right _ hq))), fun q hq => ?_⟩
  rcases List.mem_append.1 hq with hq | hq
  · exact h2 q hq
  · exact k2 q hq
theorem KA.below {B : Nat} {A : List Nat} {w w' : World} (h : KA B A w w') (hB : B ≤ w.heap.size) : Below B w w' := by
  obtain ⟨H, h1, h2⟩ := h
  exact h1.below (fun q hq => (h2 q hq).1) hB
theorem KA.cell {B : Nat} {A : List Nat} {w w' : World} (h : KA B A w w') {a i : Nat} {v : Value} (hc : w.cell? ⟨a, i, none⟩ = some v) (ha : a ∈ A) : w'.cell? ⟨a, i, none⟩ = some v := by
  obtain ⟨H, h1, h2⟩ := h
  have hl : a < w.heap.size := by
    rcases Nat.lt_or_ge a w.heap.size with h9 | h9
    · exact h9
    · rw [World.cell?] at hc
      simp [Array.getElem?_eq_none h9] at hc
  rw [← hc]
  simp only [World.cell?, h1.block a hl (fun hm => (h2 a hm).2 ha)]
theorem RowC.keepsF {F : List Nat} {w w' : World} {g : Nat} {c : Array Value} (h : RowC w g c) (hK : Keep F w w') (hq : g ∉ F) : RowC w' g c := h.block (hK.block g h.lt hq)
def thRow (g : Nat) (c : Array Value) : Th where
  P w F R := RowC w g c ∧ F = [g] ∧ R = F
  keeps := fun ⟨h1, h2, h3⟩ hK hd => ⟨h1.keepsF hK (hd g (by rw [h3, h2]; simp)), h2, h3⟩
  sub := fun ⟨_, _, h3⟩ q hq => by rw [h3]; exact hq
  lt := fun ⟨h1, h2, h3⟩ q hq => by
    rw [h3, h2, List.mem_singleton] at hq
    subst hq
    exact h1.lt
def Ga (W : World) (B : Nat) (T : Nat → Option Th) : Prop :=
  B ≤ W.heap.size ∧ ∃ F R : Nat → List Nat, (∀ k t, T k = some t → t.P W (F k) (R k) ∧ ∀ q ∈ F k, B ≤ q) ∧ ∀ j k tj tk, T j = some tj → T k = some tk → j ≠ k → ∀ q ∈ F j, q ∉ R k
def updT (T : Nat → Option Th) (k : Nat) (t : Th) : Nat → Option Th := fun j => if j = k then some t else T j
theorem updT_same (T : Nat → Option Th) (k : Nat) (t : Th) : updT T k t k = some t := if_pos rfl
theorem updT_ne (T : Nat → Option Th) (k j : Nat) (t : Th) (h : j ≠ k) : updT T k t j = T j := if_neg h
theorem Ga.size {W : World} {B : Nat} {T : Nat → Option Th} (h : Ga W B T) : B ≤ W.heap.size := h.1
theorem Ga.get {W : World} {B : Nat} {T : Nat → Option Th} (h : Ga W B T) {k : Nat} {t : Th} (hk : T k = some t) : ∃ F R, t.P W F R := by
  obtain ⟨_, F, R, h1, _⟩ := h
  exact ⟨_, _, (h1 k t hk).1⟩
theorem Ga.later {W W' : World} {B : Nat} {T : Nat → Option Th} (h : Ga W B T) (hb : Below W.heap.size W W') : Ga W' B T := by
  obtain ⟨h0, F, R, h1, h2⟩ := h
  exact ⟨Nat.le_trans h0 hb.size, F, R, fun k t hk => ⟨t.keeps (G := []) (h1 k t hk).1 (Keep.of_below hb) (fun _ _ => by simp), (h1 k t hk).2⟩, h2⟩
/-- A new thing in new memory. -/
theorem Ga.add {W W' : World} {B : Nat} {T : Nat → Option Th} (h : Ga W B T) {k : Nat} {t' : Th} (hb : Below W.heap.size W W')
    (ha : ∃ F' R', t'.P W' F' R' ∧ (∀ q ∈ F', W.heap.size ≤ q) ∧ ∀ q ∈ R', W.heap.size ≤ q) : Ga W' B (updT T k t') := by
  obtain ⟨h0, F, R, h1, h2⟩ := h
  obtain ⟨F', R', a1, a2, a3⟩ := ha
  refine ⟨Nat.le_trans h0 hb.size, fun i => if i = k then F' else F i, fun i => if i = k then R' else R i, fun i t9 hi => ?_, fun i l ti tl hi hl hne q hq hm => ?_⟩
  · by_cases e : i = k
    · subst e
      rw [updT_same] at hi
      cases hi
      simp only [if_true]
      exact ⟨a1, fun q hq => by have := a2 q hq; omega⟩
    · rw [updT_ne _ _ _ _ e] at hi
      simp only [if_neg e]
      exact ⟨t9.keeps (G := []) (h1 i t9 hi).1 (Keep.of_below hb) (fun _ _ => by simp), (h1 i t9 hi).2⟩
  · try dsimp only at hq hm
    by_cases e1 : i = k
    · subst e1
      have e2 : l ≠ i := fun e => hne e.symm
      rw [if_pos rfl] at hq
      rw [if_neg e2] at hm
      rw [updT_ne _ _ _ _ e2] at hl
      have := tl.lt (h1 l tl hl).1 q hm
      have := a2 q hq
      omega
    · rw [if_neg e1] at hq
      rw [updT_ne _ _ _ _ e1] at hi
      by_cases e2 : l = k
      · subst e2
        rw [if_pos rfl] at hm
        have := a3 q hm
        have := ti.lt (h1 i ti hi).1 q (ti.sub (h1 i ti hi).1 q hq); omega
      · rw [if_neg e2] at hm
        rw [updT_ne _ _ _ _ e2] at hl
        exact h2 i l ti tl hi hl hne q hq hm
/-! Things: a list of k cells an element, a list of one cell an element, a row; a list that is read alone -/
def thK {α : Type} (E : EK α) (B : Nat) (v : Value) (ds : List α) : Th where
  P w F R := OwnK E w B v ds ∧ F = v.ownBlock.toList ∧ R = F
  keeps := fun ⟨h1, h2, h3⟩ hK hd => ⟨h1.keeps hK (fun q hq => hd q (by rw [h3, h2, hq]; simp)), h2, h3⟩
  sub := fun ⟨_, _, h3⟩ q hq => by rw [h3]; exact hq
  lt := fun ⟨h1, h2, h3⟩ q hq => (World.ownsRow.lt h1 q (by rw [h3, h2] at hq; simpa using hq)).2
theorem OwnG.keepsF {e : TypeId} {F : List Nat} {w w' : World} {B : Nat} {v : Value} {xs : List Value} (h : OwnG e w B v xs) (hK : Keep F w w') (hq : ∀ q, v.ownBlock = some q → q ∉ F) : OwnG e w' B v xs := by
  refine ⟨h.1, ?_⟩
  rcases h.2 with hn | ⟨g, cap, cur, rfl, hb, hg, rest⟩
  · exact .inl hn
  · refine .inr ⟨g, cap, cur, rfl, hb, ?_, rest⟩
    rw [hK.block g (Array.getElem?_eq_some_iff.1 hg).1 (hq g rfl)]
    exact hg
def thG (e : TypeId) (B : Nat) (v : Value) (xs : List Value) : Th where
  P w F R := OwnG e w B v xs ∧ F = v.ownBlock.toList ∧ R = F
  keeps := fun ⟨h1, h2, h3⟩ hK hd => ⟨h1.keepsF hK (fun q hq => hd q (by rw [h3, h2, hq]; simp)), h2, h3⟩
  sub := fun ⟨_, _, h3⟩ q hq => by rw [h3]; exact hq
  lt := fun ⟨h1, h2, h3⟩ q hq => (OwnG.lt h1 q (by rw [h3, h2] at hq; simpa using hq)).2
theorem Ga.isK {α : Type} {E : EK α} {W : World} {B : Nat} {T : Nat → Option Th} (h : Ga W B T) {k : Nat} {v : Value} {ds : List α} (hk : T k = some (thK E B v ds)) : OwnK E W B v ds := by
  obtain ⟨F, R, h1, _⟩ := h.get hk
  exact h1
theorem Ga.isG {e : TypeId} {W : World} {B : Nat} {T : Nat → Option Th} (h : Ga W B T) {k : Nat} {v : Value} {xs : List Value} (hk : T k = some (thG e B v xs)) : OwnG e W B v xs := by
  obtain ⟨F, R, h1, _⟩ := h.get hk
  exact h1
theorem Ga.isRow {W : World} {B : Nat} {T : Nat → Option Th} (h : Ga W B T) {k g : Nat} {c : Array Value} (hk : T k = some (thRow g c)) : RowC W g c := by
  obtain ⟨F, R, h1, _⟩ := h.get hk
  exact h1
end Go.Proofs.YtklbdhpnbjhgkaaGreatDoor
