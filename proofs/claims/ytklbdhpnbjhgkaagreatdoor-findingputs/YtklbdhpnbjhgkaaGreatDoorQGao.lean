import Derived.Test.YtklbdhpnbjhgkaaGreatDoorQGal
import Derived.Test.YtklbdhpnbjhgkaaGreatDoorQOld
namespace Go.Proofs.YtklbdhpnbjhgkaaGreatDoor
open Go.RowKit

/-! Gal's things for lists that are marked and lengthened many times -/
variable {α : Type} {E : EK α}
theorem IsK.ofBlk {w w1 : World} {x : Option Addr} {n c : Nat} {ds : List α} (h : IsK E w (.slice x n c) ds) (hb : ∀ q, (Value.slice x n c).ownBlock = some q → w1.heap[q]? = w.heap[q]?) (hs : w.heap.size ≤ w1.heap.size) : IsK E w1 (.slice x n c) ds := by
  obtain ⟨y, e, he, hc, hd⟩ := h
  refine ⟨y, e, he, hc, fun i d hi => ?_⟩
  obtain ⟨b, o, hy, hl, hr⟩ := hd i d hi
  simp only [Value.slice.injEq] at he
  obtain ⟨rfl, -, -⟩ := he
  subst hy
  exact ⟨b, o, rfl, by omega, range_block hr (hb b rfl)⟩
/-- A list that was appended to, many times, and the one that it began as. -/
def thO (E : EK α) (B : Nat) (x : Option Addr) (nx cx : Nat) (p : Value) (dx dp : List α) : Th where
  P w F R := OldK E w B x nx cx p dx dp ∧ F = p.ownBlock.toList ∧ R = p.ownBlock.toList ++ (Value.slice x nx cx).ownBlock.toList
  keeps := fun {w w' F R G} ⟨h1, h2, h3⟩ hK hd => ⟨⟨h1.own.keeps hK (fun q hq => hd q (by rw [h3, hq]; simp)), h1.old.ofBlk (fun q hq => hK.block q (h1.lt q hq) (hd q (by rw [h3, hq]; simp))) hK.size, fun q hq => Nat.lt_of_lt_of_le (h1.lt q hq) hK.size, h1.one⟩, h2, h3⟩
  sub := fun ⟨_, h2, h3⟩ q hq => by rw [h2] at hq; rw [h3]; exact List.mem_append_left _ hq
  lt := fun ⟨h1, _, h3⟩ q hq => by
    rw [h3] at hq
    rcases List.mem_append.1 hq with hq | hq
    · exact (World.ownsRow.lt h1.own q (by simpa using hq)).2
    · exact h1.lt q (by simpa using hq)
theorem Ga.isO {W : World} {B : Nat} {T : Nat → Option Th} (h : Ga W B T) {k : Nat} {x : Option Addr} {nx cx : Nat} {p : Value} {dx dp : List α} (hk : T k = some (thO E B x nx cx p dx dp)) : OldK E W B x nx cx p dx dp := by
  obtain ⟨F, R, h1, -⟩ := h.get hk
  exact h1
/-- The list as it begins. -/
theorem Ga.beginO (O : E.Ok) {W : World} {B : Nat} {T : Nat → Option Th} (h : Ga W B T) {k : Nat} {x : Option Addr} {n c : Nat} {ds : List α} (hk : T k = some (thK E B (.slice x n c) ds)) : Ga W B (updT T k (thO E B x n c (.slice x n c) ds ds)) := by
  refine (h.act hk fun F R hP _ => ?_).1
  obtain ⟨hO, rfl, rfl⟩ := hP
  refine ⟨_, _, ⟨OldK.start O hO, rfl, rfl⟩, fun q hq => .inl hq, fun q hq => .inl ?_, Keep.of_grown (row := none) ⟨rfl, rfl, rfl, Nat.le_refl _, fun _ _ _ => rfl⟩ (fun q hq => by cases hq)⟩
  rcases List.mem_append.1 hq with hq | hq <;> exact hq
/-- append(p, d). -/
theorem Ga.appO (O : E.Ok) {W : World} {B y : Nat} {T : Nat → Option Th} (h : Ga W B T) {k : Nat} {x : Option Addr} {nx cx : Nat} {p : Value} {dx dp : List α} (hk : T k = some (thO E B x nx cx p dx dp)) (d : α) (ty : TypeId) (hy : W.rangeAt y 0 (E.enc d)) (hyl : y < W.heap.size) (hl : (dp.length + 1) * E.bytes ≤ 140737488355328) (h63 : dp.length + 1 ≤ maxLen) :
    ∃ g c' W', (Builtin.append_ #[E.S, E.S] ty #[p, .slice (some ⟨y, 0, none⟩) 1 1]).run Tryz.prog W = .ok (.slice (some ⟨g, 0, none⟩) (dp.length + 1) c') W' ∧ Ga W' B (updT T k (thO E B x nx cx (.slice (some ⟨g, 0, none⟩) (dp.length + 1) c') dx (dp ++ [d]))) ∧ Below B W W' := by
  obtain ⟨g, c', W', hr, hO', hg, hway⟩ := (h.isO hk).app O d ty hy hyl hl h63 h.size
  refine ⟨g, c', W', hr, (h.act hk fun F R hP _ => ?_).1, (h.isO hk).own.below hg h.size⟩
  obtain ⟨hO, rfl, rfl⟩ := hP
  have hnew : ∀ q, q ∈ (Value.slice (some ⟨g, 0, none⟩) (dp.length + 1) c').ownBlock.toList → q ∈ p.ownBlock.toList ∨ W.heap.size ≤ q := fun q hq => by
    have hq' : q = g := List.mem_singleton.1 (show q ∈ [g] from hq)
    subst hq'
    rcases hway with h9 | h9
    · exact .inl (by rw [h9]; simp)
    · exact .inr (by omega)
  refine ⟨_, _, ⟨hO', rfl, rfl⟩, hnew, fun q hq => ?_, Keep.of_grown hg (fun q hq => by rw [hq]; simp)⟩
  rcases List.mem_append.1 hq with hq | hq
  · rcases hnew q hq with h9 | h9
    · exact .inl (List.mem_append_left _ h9)
    · exact .inr h9
  · exact .inl (List.mem_append_right _ hq)
/-- l[K] = d. -/
theorem Ga.setK (O : E.Ok) {W : World} {B g n c : Nat} {T : Nat → Option Th} (h : Ga W B T) {k : Nat} {ds : List α} (hk : T k = some (thK E B (.slice (some ⟨g, 0, none⟩) n c) ds)) (K : Nat) (d : α) (hK : K < n) : (Instr.storeAt E.T (.pointer (some ⟨g, K * E.k, none⟩)) (.agg (E.enc d).toArray)).run Tryz.prog W = .ok () (W.setCells g (K * E.k) (E.enc d)) ∧ Ga (W.setCells g (K * E.k) (E.enc d)) B (updT T k (thK E B (.slice (some ⟨g, 0, none⟩) n c) (ds.set K d))) ∧ Below B W (W.setCells g (K * E.k) (E.enc d)) := by
  have hO := h.isK hk
  have hg := grown_setC W g (K * E.k) (E.enc d)
  refine ⟨hO.store O K d hK, (h.putK hk (Keep.of_grown hg (fun q hq => by cases hq; simp [Value.ownBlock])) (hO.put O K d hK) (fun q hq => .inl hq)).1, hO.below hg h.size⟩
end Go.Proofs.YtklbdhpnbjhgkaaGreatDoor
