import Derived.Test.YtklbdhpnbjhgkaaGreatDoorQKel
import Derived.Test.YtklbdhpnbjhgkaaGreatDoorQGenA
namespace Go.Proofs.YtklbdhpnbjhgkaaGreatDoor
open Go.RowKit

/-! A list that is lengthened many times, and the one that it began as -/
variable {α : Type} {E : EK α}
theorem IsK.oldBlock {w w1 : World} {x : Option Addr} {n c q : Nat} {ds : List α} (h : IsK E w (.slice x n c) ds) (hx : (Value.slice x n c).ownBlock = some q ∨ ds = []) (hb : w1.heap[q]? = w.heap[q]?) (hs : w.heap.size ≤ w1.heap.size) : IsK E w1 (.slice x n c) ds := by
  obtain ⟨y, e, he, hc, hd⟩ := h
  refine ⟨y, e, he, hc, fun i d hi => ?_⟩
  obtain ⟨b, o, hy, hl, hr⟩ := hd i d hi
  simp only [Value.slice.injEq] at he
  obtain ⟨rfl, -, -⟩ := he
  subst hy
  have hq : b = q := by
    rcases hx with hx | hx
    · have h9 : some b = some q := hx
      exact Option.some.inj h9
    · rw [hx] at hi; simp at hi
  subst hq
  exact ⟨b, o, rfl, by omega, range_block hr hb⟩
/-- x (dx) is as it was; p (dp) is the call's own; where both lie in one block, x is p's front. -/
structure OldK (E : EK α) (w : World) (B : Nat) (x : Option Addr) (nx cx : Nat) (p : Value) (dx dp : List α) : Prop where
  own : OwnK E w B p dp
  old : IsK E w (.slice x nx cx) dx
  lt : ∀ q, (Value.slice x nx cx).ownBlock = some q → q < w.heap.size
  one : ∀ q, (Value.slice x nx cx).ownBlock = some q → p.ownBlock = some q → ∃ np cp, x = some ⟨q, 0, none⟩ ∧ p = .slice (some ⟨q, 0, none⟩) np cp ∧ dx = dp.take nx ∧ nx ≤ np
theorem OldK.later {w w1 : World} {B : Nat} {x : Option Addr} {nx cx : Nat} {p : Value} {dx dp : List α} (h : OldK E w B x nx cx p dx dp) (hb : Below w.heap.size w w1) : OldK E w1 B x nx cx p dx dp :=
  ⟨h.own.keep hb, h.old.kept hb, fun q hq => Nat.lt_of_lt_of_le (h.lt q hq) hb.size, h.one⟩
/-- append(p, d): x stays. -/
theorem OldK.app (O : E.Ok) {w : World} {B y : Nat} {x : Option Addr} {nx cx : Nat} {p : Value} {dx dp : List α} (d : α) (ty : TypeId) (h : OldK E w B x nx cx p dx dp) (hy : w.rangeAt y 0 (E.enc d)) (hyl : y < w.heap.size) (hl : (dp.length + 1) * E.bytes ≤ 140737488355328) (h63 : dp.length + 1 ≤ maxLen) (hb : B ≤ w.heap.size) :
    ∃ g c' w', (Builtin.append_ #[E.S, E.S] ty #[p, .slice (some ⟨y, 0, none⟩) 1 1]).run Tryz.prog w = .ok (.slice (some ⟨g, 0, none⟩) (dp.length + 1) c') w' ∧ OldK E w' B x nx cx (.slice (some ⟨g, 0, none⟩) (dp.length + 1) c') dx (dp ++ [d]) ∧ w.grownBy w' p.ownBlock ∧ (p.ownBlock = some g ∨ g = w.heap.size) := by
  obtain ⟨g, c', w', hr, hO, hP, hg, hway⟩ := run_app1K O w B y p dp d ty h.own hy hyl hl h63 hb
  have hnx : nx = dx.length := h.old.cap.1
  refine ⟨g, c', w', hr, ⟨hO, ?_, fun q hq => Nat.lt_of_lt_of_le (h.lt q hq) hg.size, fun q hq hp => ?_⟩, hg, hway⟩
  · cases hq : (Value.slice x nx cx).ownBlock with
    | none =>
      have h0 : dx = [] := by
        cases hdx : dx with
        | nil => rfl
        | cons a r =>
          rw [hdx] at h
          obtain ⟨b, o, hx, -⟩ := h.old.at 0 a rfl
          rw [hx] at hq
          cases hq
      subst h0
      obtain ⟨z, e, he, hc, -⟩ := h.old
      exact ⟨z, e, he, hc, fun i d hi => by simp at hi⟩
    | some q =>
      by_cases hpq : p.ownBlock = some q
      · obtain ⟨np, cp, rfl, rfl, hdx, hle⟩ := h.one q hq hpq
        have h1 := hP.isK O
        have hnp := h1.cap
        obtain ⟨z, e, he, hc, -⟩ := h.old
        refine ⟨z, e, he, hc, fun i a hi => ?_⟩
        simp only [Value.slice.injEq] at he
        obtain ⟨rfl, -, -⟩ := he
        rw [hdx, List.getElem?_take] at hi
        split at hi
        · exact h1.at i a hi
        · cases hi
      · exact h.old.oldBlock (.inl hq) (hg.block q (h.lt q hq) (fun e => hpq e.symm)) hg.size
  · have hgq : g = q := by have h9 : some g = some q := hp; exact Option.some.inj h9
    subst hgq
    rcases hway with h9 | h9
    · obtain ⟨np, cp, e1, rfl, hdx, hle⟩ := h.one g hq h9
      have hnp := (h.own.isK O).cap.1
      exact ⟨_, _, e1, rfl, by rw [hdx, List.take_append_of_le_length (by omega)], by omega⟩
    · have := h.lt g hq; omega
end Go.Proofs.YtklbdhpnbjhgkaaGreatDoor
