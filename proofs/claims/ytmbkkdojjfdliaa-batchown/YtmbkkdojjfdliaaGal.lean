
import Derived.Test.YtmbkkdojjfdliaaKfr
import Derived.Test.YtmbkkdojjfdliaaGenA
import Derived.Test.YtmbkkdojjfdliaaRowg
import Derived.Test.YtmbkkdojjfdliaaRelk
namespace Go.Proofs.Ytmbkkdojjfdliaa
open Go.RowKit

/-! A game of things: each one holds while none of the blocks that it reads turns; what it writes no other one reads. -/
structure Th where
  P : World → List Nat → List Nat → Prop
  keeps : ∀ {w w' : World} {F R G : List Nat}, P w F R → Keep G w w' → (∀ q ∈ R, q ∉ G) → P w' F R
  sub : ∀ {w : World} {F R : List Nat}, P w F R → ∀ q ∈ F, q ∈ R
  lt : ∀ {w : World} {F R : List Nat}, P w F R → ∀ q ∈ R, q < w.heap.size
/-- Nothing but blocks that are new to B and none of A has turned. -/
def KA (B : Nat) (A : List Nat) (w w' : World) : Prop := ∃ H, Keep H w w' ∧ ∀ q ∈ H, B ≤ q ∧ q ∉ A
theorem KA.of_below {B : Nat} {A : List Nat} {w w' : World} (h : Below w.heap.size w w') : KA B A w w' := ⟨[], Keep.of_below h, fun _ hq => by cases hq⟩
theorem KA.trans {B : Nat} {A : List Nat} {w w1 w2 : World} (h : KA B A w w1) (k : KA B A w1 w2) : KA B A w w2 := by
  obtain ⟨H, h1, h2⟩ := h
  obtain ⟨J, k1, k2⟩ := k
  refine ⟨H ++ J, (h1.mono (fun q hq => .inl (List.mem_append_left _ hq))).trans (k1.mono (fun q hq => .inl (List.mem_append_right _ hq))), fun q hq => ?_⟩
  rcases List.mem_append.1 hq with hq | hq
  · exact h2 q hq
  · exact k2 q hq
theorem kokA {B : Nat} {A : List Nat} : KOk (KA B A) := ⟨KA.of_below, KA.trans⟩
theorem KA.below {B : Nat} {A : List Nat} {w w' : World} (h : KA B A w w') (hB : B ≤ w.heap.size) : Below B w w' := by
  obtain ⟨H, h1, h2⟩ := h
  exact h1.below (fun q hq => (h2 q hq).1) hB
theorem KA.cell {B : Nat} {A : List Nat} {w w' : World} (h : KA B A w w') {a i : Nat} {v : Value} (hc : w.cell? ⟨a, i, none⟩ = some v) (ha : a ∈ A) : w'.cell? ⟨a, i, none⟩ = some v := by
  obtain ⟨H, h1, h2⟩ := h
  have hl : a < w.heap.size := by
    rcases Nat.lt_or_ge a w.heap.size with h9 | h9
    · exact h9
    · rw [World.cell?] at hc
      simp [Array.getElem?_eq_none h9] at hc
  rw [← hc]
  simp only [World.cell?, h1.block a hl (fun hm => (h2 a hm).2 ha)]
theorem RowC.keepsF {F : List Nat} {w w' : World} {g : Nat} {c : Array Value} (h : RowC w g c) (hK : Keep F w w') (hq : g ∉ F) : RowC w' g c := h.block (hK.block g h.lt hq)
def thRow (g : Nat) (c : Array Value) : Th where
  P w F R := RowC w g c ∧ F = [g] ∧ R = F
  keeps := fun ⟨h1, h2, h3⟩ hK hd => ⟨h1.keepsF hK (hd g (by rw [h3, h2]; simp)), h2, h3⟩
  sub := fun ⟨_, _, h3⟩ q hq => by rw [h3]; exact hq
  lt := fun ⟨h1, h2, h3⟩ q hq => by
    rw [h3, h2, List.mem_singleton] at hq
    subst hq
    exact h1.lt
def Ga (W : World) (B : Nat) (T : Nat → Option Th) : Prop :=
  B ≤ W.heap.size ∧ ∃ F R : Nat → List Nat, (∀ k t, T k = some t → t.P W (F k) (R k) ∧ ∀ q ∈ F k, B ≤ q) ∧ ∀ j k tj tk, T j = some tj → T k = some tk → j ≠ k → ∀ q ∈ F j, q ∉ R k
def updT (T : Nat → Option Th) (k : Nat) (t : Th) : Nat → Option Th := fun j => if j = k then some t else T j
theorem updT_same (T : Nat → Option Th) (k : Nat) (t : Th) : updT T k t k = some t := if_pos rfl
theorem updT_ne (T : Nat → Option Th) (k j : Nat) (t : Th) (h : j ≠ k) : updT T k t j = T j := if_neg h
def RwN (k : Nat) (T : Nat → Option Th) (A : List Nat) : Prop := ∀ a ∈ A, ∃ j c, j ≠ k ∧ T j = some (thRow a c)
theorem Ga.size {W : World} {B : Nat} {T : Nat → Option Th} (h : Ga W B T) : B ≤ W.heap.size := h.1
theorem Ga.get {W : World} {B : Nat} {T : Nat → Option Th} (h : Ga W B T) {k : Nat} {t : Th} (hk : T k = some t) : ∃ F R, t.P W F R := by
  obtain ⟨_, F, R, h1, _⟩ := h
  exact ⟨_, _, (h1 k t hk).1⟩
theorem Ga.later {W W' : World} {B : Nat} {T : Nat → Option Th} (h : Ga W B T) (hb : Below W.heap.size W W') : Ga W' B T := by
  obtain ⟨h0, F, R, h1, h2⟩ := h
  exact ⟨Nat.le_trans h0 hb.size, F, R, fun k t hk => ⟨t.keeps (G := []) (h1 k t hk).1 (Keep.of_below hb) (fun _ _ => by simp), (h1 k t hk).2⟩, h2⟩
/-- One thing acts. -/
theorem Ga.open {W : World} {B : Nat} {T : Nat → Option Th} (h : Ga W B T) {k : Nat} {t : Th} (hk : T k = some t) :
    ∃ F R, t.P W F R ∧ (∀ q ∈ F, B ≤ q) ∧ (∀ j tj, T j = some tj → j ≠ k → ∃ Fj Rj, tj.P W Fj Rj ∧ ∀ q ∈ F, q ∉ Rj) ∧ ∀ (W' : World) (t' : Th) (F' R' : List Nat), t'.P W' F' R' → (∀ q ∈ F', q ∈ F ∨ W.heap.size ≤ q) → (∀ q ∈ R', q ∈ R ∨ W.heap.size ≤ q) → Keep F W W' → Ga W' B (updT T k t') ∧ ∀ A, RwN k T A → KA B A W W' := by
  obtain ⟨h0, F, R, h1, h2⟩ := h
  refine ⟨F k, R k, (h1 k t hk).1, (h1 k t hk).2, fun j tj hj hne => ⟨F j, R j, (h1 j tj hj).1, fun q hq => h2 k j t tj hk hj (fun e => hne e.symm) q hq⟩, fun W' t' F' R' a1 a2 a3 a4 => ?_⟩
  have hs := (t.sub (h1 k t hk).1)
  refine ⟨⟨Nat.le_trans h0 a4.size, fun j => if j = k then F' else F j, fun j => if j = k then R' else R j, fun j t9 hj => ?_, fun i j ti tj hi hj hne q hq hm => ?_⟩, fun A hA => ⟨F k, a4, fun q hq => ⟨(h1 k t hk).2 q hq, fun ha => ?_⟩⟩⟩
  · by_cases e : j = k
    · subst e
      rw [updT_same] at hj
      cases hj
      simp only [if_true]
      refine ⟨a1, fun q hq => ?_⟩
      rcases a2 q hq with h9 | h9
      · exact (h1 j t hk).2 q h9
      · omega
    · rw [updT_ne _ _ _ _ e] at hj
      simp only [if_neg e]
      exact ⟨t9.keeps (h1 j t9 hj).1 a4 (fun q hq hm => h2 k j t t9 hk hj (fun e9 => e e9.symm) q hm hq), (h1 j t9 hj).2⟩
  · try dsimp only at hq hm
    by_cases e1 : i = k
    · subst e1
      have e2 : j ≠ i := fun e => hne e.symm
      rw [if_pos rfl] at hq
      rw [if_neg e2] at hm
      rw [updT_ne _ _ _ _ e2] at hj
      rcases a2 q hq with h9 | h9
      · exact h2 i j t tj hk hj hne q h9 hm
      · have := tj.lt (h1 j tj hj).1 q hm; omega
    · rw [if_neg e1] at hq
      rw [updT_ne _ _ _ _ e1] at hi
      by_cases e2 : j = k
      · subst e2
        rw [if_pos rfl] at hm
        rcases a3 q hm with h9 | h9
        · exact h2 i j ti t hi hk hne q hq h9
        · have := ti.lt (h1 i ti hi).1 q (ti.sub (h1 i ti hi).1 q hq); omega
      · rw [if_neg e2] at hm
        rw [updT_ne _ _ _ _ e2] at hj
        exact h2 i j ti tj hi hj hne q hq hm
  · obtain ⟨j, c, hne, hj⟩ := hA q ha
    obtain ⟨_, e1, e2⟩ := (h1 j _ hj).1
    exact h2 k j t _ hk hj (fun e => hne e.symm) q hq (by rw [e2, e1]; simp)
theorem Ga.act {W W' : World} {B : Nat} {T : Nat → Option Th} (h : Ga W B T) {k : Nat} {t t' : Th} (hk : T k = some t)
    (ha : ∀ F R, t.P W F R → (∀ q ∈ F, B ≤ q) → ∃ F' R', t'.P W' F' R' ∧ (∀ q ∈ F', q ∈ F ∨ W.heap.size ≤ q) ∧ (∀ q ∈ R', q ∈ R ∨ W.heap.size ≤ q) ∧ Keep F W W') : Ga W' B (updT T k t') ∧ ∀ A, RwN k T A → KA B A W W' := by
  obtain ⟨F, R, h1, h2, -, h3⟩ := h.open hk
  obtain ⟨F', R', a1, a2, a3, a4⟩ := ha F R h1 h2
  exact h3 W' t' F' R' a1 a2 a3 a4
/-- A new thing, in new memory, that may read what another one reads and does not write. -/
theorem Ga.openC {W : World} {B : Nat} {T : Nat → Option Th} (h : Ga W B T) {j : Nat} {t : Th} (hj : T j = some t) :
    ∃ F R, t.P W F R ∧ ∀ (W' : World) (k : Nat) (t' : Th) (F' R' : List Nat), Below W.heap.size W W' → t'.P W' F' R' → (∀ q ∈ F', W.heap.size ≤ q) → (∀ q ∈ R', (q ∈ R ∧ q ∉ F) ∨ W.heap.size ≤ q) → Ga W' B (updT T k t') := by
  obtain ⟨h0, F, R, h1, h2⟩ := h
  refine ⟨F j, R j, (h1 j t hj).1, fun W' k t' F' R' hb a1 a2 a3 => ?_⟩
  refine ⟨Nat.le_trans h0 hb.size, fun i => if i = k then F' else F i, fun i => if i = k then R' else R i, fun i t9 hi => ?_, fun i l ti tl hi hl hne q hq hm => ?_⟩
  · by_cases e : i = k
    · subst e
      rw [updT_same] at hi
      cases hi
      simp only [if_true]
      exact ⟨a1, fun q hq => by have := a2 q hq; omega⟩
    · rw [updT_ne _ _ _ _ e] at hi
      simp only [if_neg e]
      exact ⟨t9.keeps (G := []) (h1 i t9 hi).1 (Keep.of_below hb) (fun _ _ => by simp), (h1 i t9 hi).2⟩
  · try dsimp only at hq hm
    by_cases e1 : i = k
    · subst e1
      have e2 : l ≠ i := fun e => hne e.symm
      rw [if_pos rfl] at hq
      rw [if_neg e2] at hm
      rw [updT_ne _ _ _ _ e2] at hl
      have := tl.lt (h1 l tl hl).1 q hm
      have := a2 q hq
      omega
    · rw [if_neg e1] at hq
      rw [updT_ne _ _ _ _ e1] at hi
      by_cases e2 : l = k
      · subst e2
        rw [if_pos rfl] at hm
        rcases a3 q hm with ⟨h8, h9⟩ | h9
        · by_cases e3 : i = j
          · subst e3; exact h9 hq
          · exact h2 i j ti t hi hj e3 q hq h8
        · have := ti.lt (h1 i ti hi).1 q (ti.sub (h1 i ti hi).1 q hq); omega
      · rw [if_neg e2] at hm
        rw [updT_ne _ _ _ _ e2] at hl
        exact h2 i l ti tl hi hl hne q hq hm
theorem Ga.copy {W W' : World} {B : Nat} {T : Nat → Option Th} (h : Ga W B T) {j k : Nat} {t t' : Th} (hj : T j = some t) (hb : Below W.heap.size W W')
    (ha : ∀ F R, t.P W F R → ∃ F' R', t'.P W' F' R' ∧ (∀ q ∈ F', W.heap.size ≤ q) ∧ ∀ q ∈ R', (q ∈ R ∧ q ∉ F) ∨ W.heap.size ≤ q) : Ga W' B (updT T k t') := by
  obtain ⟨F, R, h1, h3⟩ := h.openC hj
  obtain ⟨F', R', a1, a2, a3⟩ := ha F R h1
  exact h3 W' k t' F' R' hb a1 a2 a3
/-- A new thing in new memory. -/
theorem Ga.add {W W' : World} {B : Nat} {T : Nat → Option Th} (h : Ga W B T) {k : Nat} {t' : Th} (hb : Below W.heap.size W W')
    (ha : ∃ F' R', t'.P W' F' R' ∧ (∀ q ∈ F', W.heap.size ≤ q) ∧ ∀ q ∈ R', W.heap.size ≤ q) : Ga W' B (updT T k t') := by
  obtain ⟨h0, F, R, h1, h2⟩ := h
  obtain ⟨F', R', a1, a2, a3⟩ := ha
  refine ⟨Nat.le_trans h0 hb.size, fun i => if i = k then F' else F i, fun i => if i = k then R' else R i, fun i t9 hi => ?_, fun i l ti tl hi hl hne q hq hm => ?_⟩
  · by_cases e : i = k
    · subst e
      rw [updT_same] at hi
      cases hi
      simp only [if_true]
      exact ⟨a1, fun q hq => by have := a2 q hq; omega⟩
    · rw [updT_ne _ _ _ _ e] at hi
      simp only [if_neg e]
      exact ⟨t9.keeps (G := []) (h1 i t9 hi).1 (Keep.of_below hb) (fun _ _ => by simp), (h1 i t9 hi).2⟩
  · try dsimp only at hq hm
    by_cases e1 : i = k
    · subst e1
      have e2 : l ≠ i := fun e => hne e.symm
      rw [if_pos rfl] at hq
      rw [if_neg e2] at hm
      rw [updT_ne _ _ _ _ e2] at hl
      have := tl.lt (h1 l tl hl).1 q hm
      have := a2 q hq
      omega
    · rw [if_neg e1] at hq
      rw [updT_ne _ _ _ _ e1] at hi
      by_cases e2 : l = k
      · subst e2
        rw [if_pos rfl] at hm
        have := a3 q hm
        have := ti.lt (h1 i ti hi).1 q (ti.sub (h1 i ti hi).1 q hq); omega
      · rw [if_neg e2] at hm
        rw [updT_ne _ _ _ _ e2] at hl
        exact h2 i l ti tl hi hl hne q hq hm
theorem Ga.start {W : World} {B : Nat} (h : B ≤ W.heap.size) : Ga W B (fun _ => none) := ⟨h, fun _ => [], fun _ => [], ⟨fun _ _ hk => (by cases hk), fun _ _ _ _ hk => (by cases hk)⟩⟩
/-- Fewer things. -/
theorem Ga.less {W : World} {B : Nat} {T T' : Nat → Option Th} (h : Ga W B T) (hs : ∀ k t, T' k = some t → T k = some t) : Ga W B T' := by
  obtain ⟨h0, F, R, h1, h2⟩ := h
  exact ⟨h0, F, R, fun k t hk => h1 k t (hs k t hk), fun j k tj tk hj hk hne => h2 j k tj tk (hs j tj hj) (hs k tk hk) hne⟩
/-! Things: a list of k cells an element, a list of one cell an element, a row; a list that is read alone -/
def thK {α : Type} (E : EK α) (B : Nat) (v : Value) (ds : List α) : Th where
  P w F R := OwnK E w B v ds ∧ F = v.ownBlock.toList ∧ R = F
  keeps := fun ⟨h1, h2, h3⟩ hK hd => ⟨h1.keeps hK (fun q hq => hd q (by rw [h3, h2, hq]; simp)), h2, h3⟩
  sub := fun ⟨_, _, h3⟩ q hq => by rw [h3]; exact hq
  lt := fun ⟨h1, h2, h3⟩ q hq => (World.ownsRow.lt h1 q (by rw [h3, h2] at hq; simpa using hq)).2
theorem OwnG.keepsF {e : TypeId} {F : List Nat} {w w' : World} {B : Nat} {v : Value} {xs : List Value} (h : OwnG e w B v xs) (hK : Keep F w w') (hq : ∀ q, v.ownBlock = some q → q ∉ F) : OwnG e w' B v xs := by
  refine ⟨h.1, ?_⟩
  rcases h.2 with hn | ⟨g, cap, cur, rfl, hb, hg, rest⟩
  · exact .inl hn
  · refine .inr ⟨g, cap, cur, rfl, hb, ?_, rest⟩
    rw [hK.block g (Array.getElem?_eq_some_iff.1 hg).1 (hq g rfl)]
    exact hg
def thG (e : TypeId) (B : Nat) (v : Value) (xs : List Value) : Th where
  P w F R := OwnG e w B v xs ∧ F = v.ownBlock.toList ∧ R = F
  keeps := fun ⟨h1, h2, h3⟩ hK hd => ⟨h1.keepsF hK (fun q hq => hd q (by rw [h3, h2, hq]; simp)), h2, h3⟩
  sub := fun ⟨_, _, h3⟩ q hq => by rw [h3]; exact hq
  lt := fun ⟨h1, h2, h3⟩ q hq => (OwnG.lt h1 q (by rw [h3, h2] at hq; simpa using hq)).2
/-- A list that is read alone. -/
def thKr {α : Type} (E : EK α) (B : Nat) (v : Value) (ds : List α) : Th where
  P w F R := OwnK E w B v ds ∧ F = [] ∧ R = v.ownBlock.toList
  keeps := fun ⟨h1, h2, h3⟩ hK hd => ⟨h1.keeps hK (fun q hq => hd q (by rw [h3, hq]; simp)), h2, h3⟩
  sub := fun ⟨_, h2, _⟩ q hq => by rw [h2] at hq; cases hq
  lt := fun ⟨h1, _, h3⟩ q hq => (World.ownsRow.lt h1 q (by rw [h3] at hq; simpa using hq)).2
theorem Ga.isK {α : Type} {E : EK α} {W : World} {B : Nat} {T : Nat → Option Th} (h : Ga W B T) {k : Nat} {v : Value} {ds : List α} (hk : T k = some (thK E B v ds)) : OwnK E W B v ds := by
  obtain ⟨F, R, h1, _⟩ := h.get hk
  exact h1
theorem Ga.isKr {α : Type} {E : EK α} {W : World} {B : Nat} {T : Nat → Option Th} (h : Ga W B T) {k : Nat} {v : Value} {ds : List α} (hk : T k = some (thKr E B v ds)) : OwnK E W B v ds := by
  obtain ⟨F, R, h1, _⟩ := h.get hk
  exact h1
theorem Ga.isG {e : TypeId} {W : World} {B : Nat} {T : Nat → Option Th} (h : Ga W B T) {k : Nat} {v : Value} {xs : List Value} (hk : T k = some (thG e B v xs)) : OwnG e W B v xs := by
  obtain ⟨F, R, h1, _⟩ := h.get hk
  exact h1
theorem Ga.isRow {W : World} {B : Nat} {T : Nat → Option Th} (h : Ga W B T) {k g : Nat} {c : Array Value} (hk : T k = some (thRow g c)) : RowC W g c := by
  obtain ⟨F, R, h1, _⟩ := h.get hk
  exact h1
/-- A list of one cell an element is written, or moves to new memory. -/
theorem Ga.putG {e : TypeId} {W W' : World} {B : Nat} {T : Nat → Option Th} (h : Ga W B T) {k : Nat} {v v' : Value} {xs xs' : List Value} (hk : T k = some (thG e B v xs)) (hK : Keep v.ownBlock.toList W W') (hO : OwnG e W' B v' xs') (hv : ∀ q, v'.ownBlock = some q → v.ownBlock = some q ∨ W.heap.size ≤ q) : Ga W' B (updT T k (thG e B v' xs')) ∧ ∀ A, RwN k T A → KA B A W W' := by
  refine h.act hk fun F R hP _ => ?_
  obtain ⟨_, rfl, rfl⟩ := hP
  refine ⟨_, _, ⟨hO, rfl, rfl⟩, fun q hq => ?_, fun q hq => ?_, hK⟩
  all_goals
    rcases hv q (by simpa using hq) with h1 | h1
    · exact .inl (by rw [h1]; simp)
    · exact .inr h1
theorem Ga.putK {α : Type} {E : EK α} {W W' : World} {B : Nat} {T : Nat → Option Th} (h : Ga W B T) {k : Nat} {v v' : Value} {ds ds' : List α} (hk : T k = some (thK E B v ds)) (hK : Keep v.ownBlock.toList W W') (hO : OwnK E W' B v' ds') (hv : ∀ q, v'.ownBlock = some q → v.ownBlock = some q ∨ W.heap.size ≤ q) : Ga W' B (updT T k (thK E B v' ds')) ∧ ∀ A, RwN k T A → KA B A W W' := by
  refine h.act hk fun F R hP _ => ?_
  obtain ⟨_, rfl, rfl⟩ := hP
  refine ⟨_, _, ⟨hO, rfl, rfl⟩, fun q hq => ?_, fun q hq => ?_, hK⟩
  all_goals
    rcases hv q (by simpa using hq) with h1 | h1
    · exact .inl (by rw [h1]; simp)
    · exact .inr h1
theorem Ga.putRow {W W' : World} {B : Nat} {T : Nat → Option Th} (h : Ga W B T) {k g : Nat} {c c' : Array Value} (hk : T k = some (thRow g c)) (hK : Keep [g] W W') (hO : RowC W' g c') : Ga W' B (updT T k (thRow g c')) ∧ ∀ A, RwN k T A → KA B A W W' := by
  refine h.act hk fun F R hP _ => ?_
  obtain ⟨_, rfl, rfl⟩ := hP
  exact ⟨_, _, ⟨hO, rfl, rfl⟩, fun q hq => .inl hq, fun q hq => .inl hq, hK⟩
theorem Ga.newK {α : Type} {E : EK α} {W W' : World} {B : Nat} {T : Nat → Option Th} (h : Ga W B T) (k : Nat) {v : Value} {ds : List α} (hb : Below W.heap.size W W') (hO : OwnK E W' W.heap.size v ds) : Ga W' B (updT T k (thK E B v ds)) :=
  h.add hb ⟨_, _, ⟨hO.le h.1, rfl, rfl⟩, fun q hq => (World.ownsRow.lt hO q (by simpa using hq)).1, fun q hq => (World.ownsRow.lt hO q (by simpa using hq)).1⟩
theorem Ga.newKr {α : Type} {E : EK α} {W W' : World} {B : Nat} {T : Nat → Option Th} (h : Ga W B T) (k : Nat) {v : Value} {ds : List α} (hb : Below W.heap.size W W') (hO : OwnK E W' W.heap.size v ds) : Ga W' B (updT T k (thKr E B v ds)) :=
  h.add hb ⟨_, _, ⟨hO.le h.1, rfl, rfl⟩, fun q hq => (by cases hq), fun q hq => (World.ownsRow.lt hO q (by simpa using hq)).1⟩
theorem Ga.againKr {α : Type} {E : EK α} {W : World} {B : Nat} {T : Nat → Option Th} (h : Ga W B T) {j : Nat} (k : Nat) {v : Value} {ds : List α} (hj : T j = some (thKr E B v ds)) : Ga W B (updT T k (thKr E B v ds)) :=
  h.copy hj (Below.refl _ _) fun F R hP => ⟨[], R, ⟨hP.1, rfl, hP.2.2⟩, fun q hq => (by cases hq), fun q hq => .inl ⟨hq, by rw [hP.2.1]; simp⟩⟩
theorem Ga.newG {e : TypeId} {W W' : World} {B : Nat} {T : Nat → Option Th} (h : Ga W B T) (k : Nat) {v : Value} {xs : List Value} (hb : Below W.heap.size W W') (hO : OwnG e W' W.heap.size v xs) (hO' : OwnG e W' B v xs) : Ga W' B (updT T k (thG e B v xs)) :=
  h.add hb ⟨_, _, ⟨hO', rfl, rfl⟩, fun q hq => (OwnG.lt hO q (by simpa using hq)).1, fun q hq => (OwnG.lt hO q (by simpa using hq)).1⟩
theorem Ga.newRow {W W' : World} {B : Nat} {T : Nat → Option Th} (h : Ga W B T) (k : Nat) {g : Nat} {c : Array Value} (hb : Below W.heap.size W W') (hO : RowC W' g c) (hg : W.heap.size ≤ g) : Ga W' B (updT T k (thRow g c)) :=
  h.add hb ⟨_, _, ⟨hO, rfl, rfl⟩, fun q hq => by rw [List.mem_singleton] at hq; omega, fun q hq => by rw [List.mem_singleton] at hq; omega⟩
end Go.Proofs.Ytmbkkdojjfdliaa
