
import Derived.Test.YtfnffkommcepoaaBit9
namespace Go.Proofs.Ytfnffkommcepoaa
open Go.RowKit

/-! A lot of lists of the call's own, each apart from the others -/
structure Ow where
  e : TypeId
  k : Nat
  v : Value
  m : Nat
  xs : List Value
def ogE (e : TypeId) (v : Value) (xs : List Value) : Ow := ⟨e, 1, v, xs.length, xs⟩
def okE {α : Type} (E : EK α) (v : Value) (ds : List α) : Ow := ⟨E.T, E.k, v, ds.length, flK E ds⟩
structure Lot (W : World) (B : Nat) (L : List Ow) : Prop where
  own : ∀ (i : Nat) p, L[i]? = some p → W.ownsRow B p.e p.k p.v p.m p.xs
  ap : ∀ (i j : Nat) p q, i ≠ j → L[i]? = some p → L[j]? = some q → ApartV p.v q.v
theorem Lot.nil (W : World) (B : Nat) : Lot W B [] := ⟨fun i p h => by simp at h, fun i j p q _ h => by simp at h⟩
theorem Lot.g {W : World} {B : Nat} {L : List Ow} (h : Lot W B L) (i : Nat) {e : TypeId} {v : Value} {xs : List Value} (hi : L[i]? = some (ogE e v xs)) : OwnG e W B v xs := h.own i _ hi
theorem Lot.kk {α : Type} {E : EK α} {W : World} {B : Nat} {L : List Ow} (h : Lot W B L) (i : Nat) {v : Value} {ds : List α} (hi : L[i]? = some (okE E v ds)) : OwnK E W B v ds := h.own i _ hi
theorem owns_keep {W W' : World} {B : Nat} {e : TypeId} {k : Nat} {v : Value} {m : Nat} {xs : List Value} (h : W.ownsRow B e k v m xs) (hb : Below W.heap.size W W') : W'.ownsRow B e k v m xs :=
  World.ownsRow.kept h (row := none) ⟨hb.os, hb.tape, hb.output, hb.size, fun k hk _ => hb.block k hk⟩ (by
    cases hq : v.ownBlock with
    | none => exact .inl rfl
    | some k => exact .inr (by simp))
theorem owns_le {W : World} {B B' : Nat} {e : TypeId} {k : Nat} {v : Value} {m : Nat} {xs : List Value} (h : W.ownsRow B e k v m xs) (hb : B' ≤ B) : W.ownsRow B' e k v m xs := by
  refine ⟨h.1, ?_⟩
  rcases h.2 with h2 | ⟨g, cap, cur, h1, h2, h3⟩
  · exact .inl h2
  · exact .inr ⟨g, cap, cur, h1, by omega, h3⟩
theorem Lot.keep {W W' : World} {B : Nat} {L : List Ow} (h : Lot W B L) (hb : Below W.heap.size W W') : Lot W' B L := ⟨fun i p hi => owns_keep (h.own i p hi) hb, h.ap⟩
/-- A new one. -/
theorem Lot.add {W W' : World} {B : Nat} {L : List Ow} (h : Lot W B L) (hb : Below W.heap.size W W') (hB : B ≤ W.heap.size) (p : Ow) (hp : W'.ownsRow W.heap.size p.e p.k p.v p.m p.xs) : Lot W' B (L ++ [p]) := by
  have h2 := h.keep hb
  have hnew : ∀ (q : Ow) (i : Nat), L[i]? = some q → ApartV q.v p.v ∧ ApartV p.v q.v := fun q i hi => apart_of W.heap.size (fun k hk => (World.ownsRow.lt (h.own i q hi) k hk).2) (fun k hk => (World.ownsRow.lt hp k hk).1)
  constructor
  · intro i q hi
    by_cases hl : i < L.length
    · rw [List.getElem?_append_left hl] at hi; exact h2.own i q hi
    · rw [List.getElem?_append_right (by omega)] at hi
      obtain ⟨hj, rfl⟩ : i - L.length = 0 ∧ p = q := by
        rcases hh : i - L.length with _ | t
        · rw [hh] at hi; simp at hi; exact ⟨rfl, hi⟩
        · rw [hh] at hi; simp at hi
      exact owns_le hp hB
  · intro i j q r hij hi hj
    by_cases hl : i < L.length
    · rw [List.getElem?_append_left hl] at hi
      by_cases hl2 : j < L.length
      · rw [List.getElem?_append_left hl2] at hj; exact h.ap i j q r hij hi hj
      · rw [List.getElem?_append_right (by omega)] at hj
        obtain rfl : p = r := by
          rcases hh : j - L.length with _ | t
          · rw [hh] at hj; simpa using hj
          · rw [hh] at hj; simp at hj
        exact (hnew q i hi).1
    · rw [List.getElem?_append_right (by omega)] at hi
      have hi0 : i = L.length ∧ p = q := by
        rcases hh : i - L.length with _ | t
        · rw [hh] at hi; simp at hi; exact ⟨by omega, hi⟩
        · rw [hh] at hi; simp at hi
      obtain ⟨hi0, rfl⟩ := hi0
      by_cases hl2 : j < L.length
      · rw [List.getElem?_append_left hl2] at hj; exact (hnew r j hj).2
      · rw [List.getElem?_append_right (by omega)] at hj
        exfalso
        rcases hh : j - L.length with _ | t
        · omega
        · rw [hh] at hj; simp at hj
/-- Two new ones, apart. -/
theorem Lot.add2 {W W' : World} {B : Nat} {L : List Ow} (h : Lot W B L) (hb : Below W.heap.size W W') (hB : B ≤ W.heap.size) (p q : Ow) (hp : W'.ownsRow W.heap.size p.e p.k p.v p.m p.xs) (hq : W'.ownsRow W.heap.size q.e q.k q.v q.m q.xs) (hpq : ApartV p.v q.v) : Lot W' B (L ++ [p, q]) := by
  have h1 := h.add hb hB p hp
  have h2 := h.add hb hB q hq
  have e0 : ∀ (r : Ow) i, (L ++ [p, q])[i]? = some r → (i < L.length ∧ L[i]? = some r) ∨ (i = L.length ∧ r = p) ∨ (i = L.length + 1 ∧ r = q) := by
    intro r i hi
    by_cases hl : i < L.length
    · rw [List.getElem?_append_left hl] at hi; exact .inl ⟨hl, hi⟩
    · rw [List.getElem?_append_right (by omega)] at hi
      rcases hh : i - L.length with _ | _ | t
      · rw [hh] at hi; simp at hi; exact .inr (.inl ⟨by omega, hi.symm⟩)
      · rw [hh] at hi; simp at hi; exact .inr (.inr ⟨by omega, hi.symm⟩)
      · rw [hh] at hi; simp at hi
  have l1 : (L ++ [p])[L.length]? = some p := by simp
  have l2 : (L ++ [q])[L.length]? = some q := by simp
  constructor
  · intro i r hi
    rcases e0 r i hi with ⟨hl, hr⟩ | ⟨rfl, rfl⟩ | ⟨rfl, rfl⟩
    · exact owns_keep (h.own i r hr) hb
    · exact owns_le hp hB
    · exact owns_le hq hB
  · intro i j r t hij hi hj
    rcases e0 r i hi with ⟨hl, hr⟩ | ⟨rfl, rfl⟩ | ⟨rfl, rfl⟩ <;> rcases e0 t j hj with ⟨hl', ht⟩ | ⟨rfl, rfl⟩ | ⟨rfl, rfl⟩
    · exact h.ap i j r t hij hr ht
    · exact h1.ap i L.length r t (by omega) (by rw [List.getElem?_append_left hl]; exact hr) l1
    · exact h2.ap i L.length r t (by omega) (by rw [List.getElem?_append_left hl]; exact hr) l2
    · exact h1.ap L.length j r t (by omega) l1 (by rw [List.getElem?_append_left hl']; exact ht)
    · exact absurd rfl hij
    · exact hpq
    · exact h2.ap L.length j r t (by omega) l2 (by rw [List.getElem?_append_left hl']; exact ht)
    · exact hpq.symm
    · exact absurd rfl hij
/-- One of them is written or grown. -/
theorem Lot.step {W W' : World} {B : Nat} {L : List Ow} (h : Lot W B L) (i : Nat) (p q : Ow) (hi : L[i]? = some p) (hq : W'.ownsRow B q.e q.k q.v q.m q.xs)
    (stay : ∀ (v : Value) (e : TypeId) (k m : Nat) (xs : List Value), W.ownsRow B e k v m xs → ApartV v p.v → W'.ownsRow B e k v m xs ∧ ApartV v q.v) : Lot W' B (L.set i q) := by
  have hil : i < L.length := (List.getElem?_eq_some_iff.1 hi).1
  have e0 : ∀ (r : Ow) j, (L.set i q)[j]? = some r → (j = i ∧ r = q) ∨ (j ≠ i ∧ L[j]? = some r) := by
    intro r j hj
    rw [List.getElem?_set] at hj
    by_cases e : i = j
    · subst e; simp [hil] at hj; exact .inl ⟨rfl, hj.symm⟩
    · rw [if_neg e] at hj; exact .inr ⟨fun x => e x.symm, hj⟩
  constructor
  · intro j r hj
    rcases e0 r j hj with ⟨rfl, rfl⟩ | ⟨hne, hr⟩
    · exact hq
    · exact (stay r.v r.e r.k r.m r.xs (h.own j r hr) (h.ap j i r p hne hr hi)).1
  · intro j t r s hjt hj ht
    rcases e0 r j hj with ⟨rfl, rfl⟩ | ⟨hne, hr⟩ <;> rcases e0 s t ht with ⟨rfl, rfl⟩ | ⟨hne2, hs⟩
    · exact absurd rfl hjt
    · exact ((stay s.v s.e s.k s.m s.xs (h.own t s hs) (h.ap t j s p hne2 hs hi)).2).symm
    · exact (stay r.v r.e r.k r.m r.xs (h.own j r hr) (h.ap j t r p hne hr hi)).2
    · exact h.ap j t r s hjt hr hs
end Go.Proofs.Ytfnffkommcepoaa
