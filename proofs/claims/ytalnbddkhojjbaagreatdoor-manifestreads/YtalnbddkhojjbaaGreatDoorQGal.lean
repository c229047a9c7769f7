import Derived.Test.YtalnbddkhojjbaaGreatDoorQApp
import Derived.Test.YtalnbddkhojjbaaGreatDoorQNum
import Derived.Test.YtalnbddkhojjbaaGreatDoorQRelt
namespace Go.Proofs.YtalnbddkhojjbaaGreatDoor
open Go.RowKit

structure Th where
  P : World → List Nat → List Nat → Prop
  keeps : ∀ {w w' : World} {F R G : List Nat}, P w F R → Keep G w w' → (∀ q ∈ R, q ∉ G) → P w' F R
  sub : ∀ {w : World} {F R : List Nat}, P w F R → ∀ q ∈ F, q ∈ R
  lt : ∀ {w : World} {F R : List Nat}, P w F R → ∀ q ∈ R, q < w.heap.size
def KA (B : Nat) (A : List Nat) (w w' : World) : Prop := ∃ H, Keep H w w' ∧ ∀ q ∈ H, B ≤ q ∧ q ∉ A
theorem RowC.keepsF {F : List Nat} {w w' : World} {g : Nat} {c : Array Value} (h : RowC w g c) (hK : Keep F w w') (hq : g ∉ F) : RowC w' g c := h.block (hK.block g h.lt hq)
def thRow (g : Nat) (c : Array Value) : Th where
  P w F R := RowC w g c ∧ F = [g] ∧ R = F
  keeps := fun ⟨h1, h2, h3⟩ hK hd => ⟨h1.keepsF hK (hd g (by rw [h3, h2]; simp)), h2, h3⟩
  sub := fun ⟨_, _, h3⟩ q hq => by rw [h3]; exact hq
  lt := fun ⟨h1, h2, h3⟩ q hq => by
    rw [h3, h2, List.mem_singleton] at hq
    subst hq
    exact h1.lt
def Ga (W : World) (B : Nat) (T : Nat → Option Th) : Prop :=
  B ≤ W.heap.size ∧ ∃ F R : Nat → List Nat, (∀ k t, T k = some t → t.P W (F k) (R k) ∧ ∀ q ∈ F k, B ≤ q) ∧ ∀ j k tj tk, T j = some tj → T k = some tk → j ≠ k → ∀ q ∈ F j, q ∉ R k
def updT (T : Nat → Option Th) (k : Nat) (t : Th) : Nat → Option Th := fun j => if j = k then some t else T j
theorem updT_same (T : Nat → Option Th) (k : Nat) (t : Th) : updT T k t k = some t := if_pos rfl
theorem updT_ne (T : Nat → Option Th) (k j : Nat) (t : Th) (h : j ≠ k) : updT T k t j = T j := if_neg h
def RwN (k : Nat) (T : Nat → Option Th) (A : List Nat) : Prop := ∀ a ∈ A, ∃ j c, j ≠ k ∧ T j = some (thRow a c)
theorem Ga.size {W : World} {B : Nat} {T : Nat → Option Th} (h : Ga W B T) : B ≤ W.heap.size := h.1
theorem Ga.get {W : World} {B : Nat} {T : Nat → Option Th} (h : Ga W B T) {k : Nat} {t : Th} (hk : T k = some t) : ∃ F R, t.P W F R := by
  obtain ⟨_, F, R, h1, _⟩ := h
  exact ⟨_, _, (h1 k t hk).1⟩
theorem Ga.later {W W' : World} {B : Nat} {T : Nat → Option Th} (h : Ga W B T) (hb : Below W.heap.size W W') : Ga W' B T := by
  obtain ⟨h0, F, R, h1, h2⟩ := h
  exact ⟨Nat.le_trans h0 hb.size, F, R, fun k t hk => ⟨t.keeps (G := []) (h1 k t hk).1 (Keep.of_below hb) (fun _ _ => by simp), (h1 k t hk).2⟩, h2⟩
theorem Ga.open {W : World} {B : Nat} {T : Nat → Option Th} (h : Ga W B T) {k : Nat} {t : Th} (hk : T k = some t) :
    ∃ F R, t.P W F R ∧ (∀ q ∈ F, B ≤ q) ∧ (∀ j tj, T j = some tj → j ≠ k → ∃ Fj Rj, tj.P W Fj Rj ∧ ∀ q ∈ F, q ∉ Rj) ∧ ∀ (W' : World) (t' : Th) (F' R' : List Nat), t'.P W' F' R' → (∀ q ∈ F', q ∈ F ∨ W.heap.size ≤ q) → (∀ q ∈ R', q ∈ R ∨ W.heap.size ≤ q) → Keep F W W' → Ga W' B (updT T k t') ∧ ∀ A, RwN k T A → KA B A W W' := by
  obtain ⟨h0, F, R, h1, h2⟩ := h
  refine ⟨F k, R k, (h1 k t hk).1, (h1 k t hk).2, fun j tj hj hne => ⟨F j, R j, (h1 j tj hj).1, fun q hq => h2 k j t tj hk hj (fun e => hne e.symm) q hq⟩, fun W' t' F' R' a1 a2 a3 a4 => ?_⟩
  have hs := (t.sub (h1 k t hk).1)
  refine ⟨⟨Nat.le_trans h0 a4.size, fun j => if j = k then F' else F j, fun j => if j = k then R' else R j, fun j t9 hj => ?_, fun i j ti tj hi hj hne q hq hm => ?_⟩, fun A hA => ⟨F k, a4, fun q hq => ⟨(h1 k t hk).2 q hq, fun ha => ?_⟩⟩⟩
  · by_cases e : j = k
    · subst e
      rw [updT_same] at hj
      cases hj
      simp only [if_true]
      refine ⟨a1, fun q hq => ?_⟩
      rcases a2 q hq with h9 | h9
      · exact (h1 j t hk).2 q h9
      · omega
    · rw [updT_ne _ _ _ _ e] at hj
      simp only [if_neg e]
      exact ⟨t9.keeps (h1 j t9 hj).1 a4 (fun q hq hm => h2 k j t t9 hk hj (fun e9 => e e9.symm) q hm hq), (h1 j t9 hj).2⟩
  · try dsimp only at hq hm
    by_cases e1 : i = k
    · subst e1
      have e2 : j ≠ i := fun e => hne e.symm
      rw [if_pos rfl] at hq
      rw [if_neg e2] at hm
      rw [updT_ne _ _ _ _ e2] at hj
      rcases a2 q hq with h9 | h9
      · exact h2 i j t tj hk hj hne q h9 hm
      · have := tj.lt (h1 j tj hj).1 q hm; omega
    · rw [if_neg e1] at hq
      rw [updT_ne _ _ _ _ e1] at hi
      by_cases e2 : j = k
      · subst e2
        rw [if_pos rfl] at hm
        rcases a3 q hm with h9 | h9
        · exact h2 i j ti t hi hk hne q hq h9
        · have := ti.lt (h1 i ti hi).1 q (ti.sub (h1 i ti hi).1 q hq); omega
      · rw [if_neg e2] at hm
        rw [updT_ne _ _ _ _ e2] at hj
        exact h2 i j ti tj hi hj hne q hq hm
  · obtain ⟨j, c, hne, hj⟩ := hA q ha
    obtain ⟨_, e1, e2⟩ := (h1 j _ hj).1
    exact h2 k j t _ hk hj (fun e => hne e.symm) q hq (by rw [e2, e1]; simp)
theorem Ga.act {W W' : World} {B : Nat} {T : Nat → Option Th} (h : Ga W B T) {k : Nat} {t t' : Th} (hk : T k = some t)
    (ha : ∀ F R, t.P W F R → (∀ q ∈ F, B ≤ q) → ∃ F' R', t'.P W' F' R' ∧ (∀ q ∈ F', q ∈ F ∨ W.heap.size ≤ q) ∧ (∀ q ∈ R', q ∈ R ∨ W.heap.size ≤ q) ∧ Keep F W W') : Ga W' B (updT T k t') ∧ ∀ A, RwN k T A → KA B A W W' := by
  obtain ⟨F, R, h1, h2, -, h3⟩ := h.open hk
  obtain ⟨F', R', a1, a2, a3, a4⟩ := ha F R h1 h2
  exact h3 W' t' F' R' a1 a2 a3 a4
theorem Ga.openC {W : World} {B : Nat} {T : Nat → Option Th} (h : Ga W B T) {j : Nat} {t : Th} (hj : T j = some t) :
    ∃ F R, t.P W F R ∧ ∀ (W' : World) (k : Nat) (t' : Th) (F' R' : List Nat), Below W.heap.size W W' → t'.P W' F' R' → (∀ q ∈ F', W.heap.size ≤ q) → (∀ q ∈ R', (q ∈ R ∧ q ∉ F) ∨ W.heap.size ≤ q) → Ga W' B (updT T k t') := by
  obtain ⟨h0, F, R, h1, h2⟩ := h
  refine ⟨F j, R j, (h1 j t hj).1, fun W' k t' F' R' hb a1 a2 a3 => ?_⟩
  refine ⟨Nat.le_trans h0 hb.size, fun i => if i = k then F' else F i, fun i => if i = k then R' else R i, fun i t9 hi => ?_, fun i l ti tl hi hl hne q hq hm => ?_⟩
  · by_cases e : i = k
    · subst e
      rw [updT_same] at hi
      cases hi
      simp only [if_true]
      exact ⟨a1, fun q hq => by have := a2 q hq; omega⟩
    · rw [updT_ne _ _ _ _ e] at hi
      simp only [if_neg e]
      exact ⟨t9.keeps (G := []) (h1 i t9 hi).1 (Keep.of_below hb) (fun _ _ => by simp), (h1 i t9 hi).2⟩
  · try dsimp only at hq hm
    by_cases e1 : i = k
    · subst e1
      have e2 : l ≠ i := fun e => hne e.symm
      rw [if_pos rfl] at hq
      rw [if_neg e2] at hm
      rw [updT_ne _ _ _ _ e2] at hl
      have := tl.lt (h1 l tl hl).1 q hm
      have := a2 q hq
      omega
    · rw [if_neg e1] at hq
      rw [updT_ne _ _ _ _ e1] at hi
      by_cases e2 : l = k
      · subst e2
        rw [if_pos rfl] at hm
        rcases a3 q hm with ⟨h8, h9⟩ | h9
        · by_cases e3 : i = j
          · subst e3; exact h9 hq
          · exact h2 i j ti t hi hj e3 q hq h8
        · have := ti.lt (h1 i ti hi).1 q (ti.sub (h1 i ti hi).1 q hq); omega
      · rw [if_neg e2] at hm
        rw [updT_ne _ _ _ _ e2] at hl
        exact h2 i l ti tl hi hl hne q hq hm
theorem Ga.add {W W' : World} {B : Nat} {T : Nat → Option Th} (h : Ga W B T) {k : Nat} {t' : Th} (hb : Below W.heap.size W W')
    (ha : ∃ F' R', t'.P W' F' R' ∧ (∀ q ∈ F', W.heap.size ≤ q) ∧ ∀ q ∈ R', W.heap.size ≤ q) : Ga W' B (updT T k t') := by
  obtain ⟨h0, F, R, h1, h2⟩ := h
  obtain ⟨F', R', a1, a2, a3⟩ := ha
  refine ⟨Nat.le_trans h0 hb.size, fun i => if i = k then F' else F i, fun i => if i = k then R' else R i, fun i t9 hi => ?_, fun i l ti tl hi hl hne q hq hm => ?_⟩
  · by_cases e : i = k
    · subst e
      rw [updT_same] at hi
      cases hi
      simp only [if_true]
      exact ⟨a1, fun q hq => by have := a2 q hq; omega⟩
    · rw [updT_ne _ _ _ _ e] at hi
      simp only [if_neg e]
      exact ⟨t9.keeps (G := []) (h1 i t9 hi).1 (Keep.of_below hb) (fun _ _ => by simp), (h1 i t9 hi).2⟩
  · try dsimp only at hq hm
    by_cases e1 : i = k
    · subst e1
      have e2 : l ≠ i := fun e => hne e.symm
      rw [if_pos rfl] at hq
      rw [if_neg e2] at hm
      rw [updT_ne _ _ _ _ e2] at hl
      have := tl.lt (h1 l tl hl).1 q hm
      have := a2 q hq
      omega
    · rw [if_neg e1] at hq
      rw [updT_ne _ _ _ _ e1] at hi
      by_cases e2 : l = k
      · subst e2
        rw [if_pos rfl] at hm
        have := a3 q hm
        have := ti.lt (h1 i ti hi).1 q (ti.sub (h1 i ti hi).1 q hq); omega
      · rw [if_neg e2] at hm
        rw [updT_ne _ _ _ _ e2] at hl
        exact h2 i l ti tl hi hl hne q hq hm
theorem Ga.start {W : World} {B : Nat} (h : B ≤ W.heap.size) : Ga W B (fun _ => none) := ⟨h, fun _ => [], fun _ => [], ⟨fun _ _ hk => (by cases hk), fun _ _ _ _ hk => (by cases hk)⟩⟩
def thK {α : Type} (E : EK α) (B : Nat) (v : Value) (ds : List α) : Th where
  P w F R := OwnK E w B v ds ∧ F = v.ownBlock.toList ∧ R = F
  keeps := fun ⟨h1, h2, h3⟩ hK hd => ⟨h1.keeps hK (fun q hq => hd q (by rw [h3, h2, hq]; simp)), h2, h3⟩
  sub := fun ⟨_, _, h3⟩ q hq => by rw [h3]; exact hq
  lt := fun ⟨h1, h2, h3⟩ q hq => (World.ownsRow.lt h1 q (by rw [h3, h2] at hq; simpa using hq)).2
theorem Ga.isK {α : Type} {E : EK α} {W : World} {B : Nat} {T : Nat → Option Th} (h : Ga W B T) {k : Nat} {v : Value} {ds : List α} (hk : T k = some (thK E B v ds)) : OwnK E W B v ds := by
  obtain ⟨F, R, h1, _⟩ := h.get hk
  exact h1
theorem Ga.putK {α : Type} {E : EK α} {W W' : World} {B : Nat} {T : Nat → Option Th} (h : Ga W B T) {k : Nat} {v v' : Value} {ds ds' : List α} (hk : T k = some (thK E B v ds)) (hK : Keep v.ownBlock.toList W W') (hO : OwnK E W' B v' ds') (hv : ∀ q, v'.ownBlock = some q → v.ownBlock = some q ∨ W.heap.size ≤ q) : Ga W' B (updT T k (thK E B v' ds')) ∧ ∀ A, RwN k T A → KA B A W W' := by
  refine h.act hk fun F R hP _ => ?_
  obtain ⟨_, rfl, rfl⟩ := hP
  refine ⟨_, _, ⟨hO, rfl, rfl⟩, fun q hq => ?_, fun q hq => ?_, hK⟩
  all_goals
    rcases hv q (by simpa using hq) with h1 | h1
    · exact .inl (by rw [h1]; simp)
    · exact .inr h1
theorem Ga.newK {α : Type} {E : EK α} {W W' : World} {B : Nat} {T : Nat → Option Th} (h : Ga W B T) (k : Nat) {v : Value} {ds : List α} (hb : Below W.heap.size W W') (hO : OwnK E W' W.heap.size v ds) : Ga W' B (updT T k (thK E B v ds)) :=
  h.add hb ⟨_, _, ⟨hO.le h.1, rfl, rfl⟩, fun q hq => (World.ownsRow.lt hO q (by simpa using hq)).1, fun q hq => (World.ownsRow.lt hO q (by simpa using hq)).1⟩
end Go.Proofs.YtalnbddkhojjbaaGreatDoor
namespace Go.Proofs.YtalnbddkhojjbaaGreatDoor
open Go.RowKit

variable {α : Type} {E : EK α}
theorem IsK.ofBlk {w w1 : World} {x : Option Addr} {n c : Nat} {ds : List α} (h : IsK E w (.slice x n c) ds) (hb : ∀ q, (Value.slice x n c).ownBlock = some q → w1.heap[q]? = w.heap[q]?) (hs : w.heap.size ≤ w1.heap.size) : IsK E w1 (.slice x n c) ds := by
  obtain ⟨y, e, he, hc, hd⟩ := h
  refine ⟨y, e, he, hc, fun i d hi => ?_⟩
  obtain ⟨b, o, hy, hl, hr⟩ := hd i d hi
  simp only [Value.slice.injEq] at he
  obtain ⟨rfl, -, -⟩ := he
  subst hy
  exact ⟨b, o, rfl, by omega, range_block hr (hb b rfl)⟩
def thO (E : EK α) (B : Nat) (x : Option Addr) (nx cx : Nat) (p : Value) (dx dp : List α) : Th where
  P w F R := OldK E w B x nx cx p dx dp ∧ F = p.ownBlock.toList ∧ R = p.ownBlock.toList ++ (Value.slice x nx cx).ownBlock.toList
  keeps := fun {w w' F R G} ⟨h1, h2, h3⟩ hK hd => ⟨⟨h1.own.keeps hK (fun q hq => hd q (by rw [h3, hq]; simp)), h1.old.ofBlk (fun q hq => hK.block q (h1.lt q hq) (hd q (by rw [h3, hq]; simp))) hK.size, fun q hq => Nat.lt_of_lt_of_le (h1.lt q hq) hK.size, h1.one⟩, h2, h3⟩
  sub := fun ⟨_, h2, h3⟩ q hq => by rw [h2] at hq; rw [h3]; exact List.mem_append_left _ hq
  lt := fun ⟨h1, _, h3⟩ q hq => by
    rw [h3] at hq
    rcases List.mem_append.1 hq with hq | hq
    · exact (World.ownsRow.lt h1.own q (by simpa using hq)).2
    · exact h1.lt q (by simpa using hq)
theorem Ga.isO {W : World} {B : Nat} {T : Nat → Option Th} (h : Ga W B T) {k : Nat} {x : Option Addr} {nx cx : Nat} {p : Value} {dx dp : List α} (hk : T k = some (thO E B x nx cx p dx dp)) : OldK E W B x nx cx p dx dp := by
  obtain ⟨F, R, h1, -⟩ := h.get hk
  exact h1
theorem Ga.beginO (O : E.Ok) {W : World} {B : Nat} {T : Nat → Option Th} (h : Ga W B T) {k : Nat} {x : Option Addr} {n c : Nat} {ds : List α} (hk : T k = some (thK E B (.slice x n c) ds)) : Ga W B (updT T k (thO E B x n c (.slice x n c) ds ds)) := by
  refine (h.act hk fun F R hP _ => ?_).1
  obtain ⟨hO, rfl, rfl⟩ := hP
  refine ⟨_, _, ⟨OldK.start O hO, rfl, rfl⟩, fun q hq => .inl hq, fun q hq => .inl ?_, Keep.of_grown (row := none) ⟨rfl, rfl, rfl, Nat.le_refl _, fun _ _ _ => rfl⟩ (fun q hq => by cases hq)⟩
  rcases List.mem_append.1 hq with hq | hq <;> exact hq
theorem Ga.appO (O : E.Ok) {W : World} {B y : Nat} {T : Nat → Option Th} (h : Ga W B T) {k : Nat} {x : Option Addr} {nx cx : Nat} {p : Value} {dx dp : List α} (hk : T k = some (thO E B x nx cx p dx dp)) (d : α) (ty : TypeId) (hy : W.rangeAt y 0 (E.enc d)) (hyl : y < W.heap.size) (hl : (dp.length + 1) * E.bytes ≤ 140737488355328) (h63 : dp.length + 1 ≤ maxLen) :
    ∃ g c' W', (Builtin.append_ #[E.S, E.S] ty #[p, .slice (some ⟨y, 0, none⟩) 1 1]).run Tryz.prog W = .ok (.slice (some ⟨g, 0, none⟩) (dp.length + 1) c') W' ∧ Ga W' B (updT T k (thO E B x nx cx (.slice (some ⟨g, 0, none⟩) (dp.length + 1) c') dx (dp ++ [d]))) ∧ Below B W W' := by
  obtain ⟨g, c', W', hr, hO', hg, hway⟩ := (h.isO hk).app O d ty hy hyl hl h63 h.size
  refine ⟨g, c', W', hr, (h.act hk fun F R hP _ => ?_).1, (h.isO hk).own.below hg h.size⟩
  obtain ⟨hO, rfl, rfl⟩ := hP
  have hnew : ∀ q, q ∈ (Value.slice (some ⟨g, 0, none⟩) (dp.length + 1) c').ownBlock.toList → q ∈ p.ownBlock.toList ∨ W.heap.size ≤ q := fun q hq => by
    have hq' : q = g := List.mem_singleton.1 (show q ∈ [g] from hq)
    subst hq'
    rcases hway with h9 | h9
    · exact .inl (by rw [h9]; simp)
    · exact .inr (by omega)
  refine ⟨_, _, ⟨hO', rfl, rfl⟩, hnew, fun q hq => ?_, Keep.of_grown hg (fun q hq => by rw [hq]; simp)⟩
  rcases List.mem_append.1 hq with hq | hq
  · rcases hnew q hq with h9 | h9
    · exact .inl (List.mem_append_left _ h9)
    · exact .inr h9
  · exact .inl (List.mem_append_right _ hq)
theorem Ga.setK (O : E.Ok) {W : World} {B g n c : Nat} {T : Nat → Option Th} (h : Ga W B T) {k : Nat} {ds : List α} (hk : T k = some (thK E B (.slice (some ⟨g, 0, none⟩) n c) ds)) (K : Nat) (d : α) (hK : K < n) : (Instr.storeAt E.T (.pointer (some ⟨g, K * E.k, none⟩)) (.agg (E.enc d).toArray)).run Tryz.prog W = .ok () (W.setCells g (K * E.k) (E.enc d)) ∧ Ga (W.setCells g (K * E.k) (E.enc d)) B (updT T k (thK E B (.slice (some ⟨g, 0, none⟩) n c) (ds.set K d))) ∧ Below B W (W.setCells g (K * E.k) (E.enc d)) := by
  have hO := h.isK hk
  have hg := grown_setC W g (K * E.k) (E.enc d)
  refine ⟨hO.store O K d hK, (h.putK hk (Keep.of_grown hg (fun q hq => by cases hq; simp [Value.ownBlock])) (hO.put O K d hK) (fun q hq => .inl hq)).1, hO.below hg h.size⟩
end Go.Proofs.YtalnbddkhojjbaaGreatDoor
