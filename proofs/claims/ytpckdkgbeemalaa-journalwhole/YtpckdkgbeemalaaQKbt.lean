import Derived.Test.YtpckdkgbeemalaaQNum
namespace Go.Proofs.Ytpckdkgbeemalaa
open Go.RowKit

/-! One cell of an element of a slice of the call's own -/
variable {α : Type} {E : EK α}
theorem flK_cell (O : E.Ok) : ∀ (ds : List α) (k j : Nat) (d d' : α) (v : Value), ds[k]? = some d → j < E.k → (E.enc d).set j v = E.enc d' → (flK E ds).set (k * E.k + j) v = flK E (ds.set k d')
  | [], k, j, d, d', v, h, _, _ => by simp at h
  | x :: r, 0, j, d, d', v, h, hj, he => by
    simp at h
    subst h
    have hl := O.len x
    rw [flK, List.set_cons_zero, flK, Nat.zero_mul, Nat.zero_add, List.set_append_left _ _ (by omega), he]
  | x :: r, k + 1, j, d, d', v, h, hj, he => by
    have hl := O.len x
    have h' : r[k]? = some d := by simpa using h
    have hm : (k + 1) * E.k = k * E.k + E.k := by rw [Nat.add_mul, Nat.one_mul]
    rw [flK, List.set_cons_succ, flK, List.set_append_right _ _ (by omega), hl, show (k + 1) * E.k + j - E.k = k * E.k + j by omega, flK_cell O r k j d d' v h' hj he]
theorem OwnK.cellPut (O : E.Ok) {w : World} {B g n c : Nat} {ds : List α} (h : OwnK E w B (.slice (some ⟨g, 0, none⟩) n c) ds) (k j : Nat) (d d' : α) (v : Value) (hd : ds[k]? = some d) (hj : j < E.k) (he : (E.enc d).set j v = E.enc d') :
    OwnK E (w.setCell ⟨g, k * E.k + j, none⟩ v) B (.slice (some ⟨g, 0, none⟩) n c) (ds.set k d') := by
  obtain ⟨cur, h1, h2, h3, h4, h5, h6, h7⟩ := h.heap
  refine ⟨by rw [flK_len O], .inr ⟨g, c, cur.setIfInBounds (k * E.k + j) v, by rw [List.length_set, h1], h2, heap_setCell w g _ _ cur _ _ h3, ?_, h5, ?_, ?_⟩⟩
  · rw [List.length_set]; omega
  · rw [Array.size_setIfInBounds]; exact h6
  · rw [List.length_set, Array.toList_setIfInBounds, List.take_set, ← h1, h7]
    exact flK_cell O ds k j d d' v hd hj he
theorem OwnK.frz {w : World} {B g n c : Nat} {ds : List α} (h : OwnK E w B (.slice (some ⟨g, 0, none⟩) n c) ds) (j : Nat) : w.frozen? ⟨g, j, none⟩ = false := by
  obtain ⟨cur, h1, h2, h3, h4, h5, h6, h7⟩ := h.heap
  simp [World.frozen?, h3]
theorem OwnK.ge {w : World} {B g n c : Nat} {ds : List α} (h : OwnK E w B (.slice (some ⟨g, 0, none⟩) n c) ds) : B ≤ g := by
  obtain ⟨cur, h1, h2, h3, h4, h5, h6, h7⟩ := h.heap
  exact h2
theorem lentIs (O : E.Ok) {w : World} {B g n c : Nat} {l : List α} {d : α} (h : OwnK E w B (.slice (some ⟨g, 0, none⟩) (n + 1) c) (l ++ [d])) (hn : l.length = n) : IsK E w (.slice (some ⟨g, 0, none⟩) n c) l := by
  have := (h.cut O n (by omega)).isK O
  rwa [← hn, List.take_left, hn] at this
end Go.Proofs.Ytpckdkgbeemalaa
