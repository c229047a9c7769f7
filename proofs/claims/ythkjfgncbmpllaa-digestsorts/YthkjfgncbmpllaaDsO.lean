
import Derived.Test.YthkjfgncbmpllaaDsS
namespace Go.Proofs.Ythkjfgncbmpllaa
open Go.RowKit

/-! Sorting by choosing: what is so behind each step. -/
def Beh (rs : List Dg) (n : Nat) : Prop := ∀ m ∈ nums rs, m < n
/-- Some of the list in order; what isn't there yet comes behind all of it. -/
structure SortUp (ds rs : List Dg) : Prop where
  asc : (nums rs).Pairwise (· < ·)
  sub : ∀ n ∈ nums rs, n ∈ nums ds
  rest : ∀ n ∈ nums ds, n ∉ nums rs → Beh rs n
theorem SortUp.nil (ds : List Dg) : SortUp ds [] := ⟨List.Pairwise.nil, fun n h => (by cases h), fun _ _ _ m hm => (by cases hm)⟩
theorem SortUp.len {ds rs : List Dg} (h : SortUp ds rs) : rs.length ≤ ds.length := by
  have := asc_len _ _ h.asc h.sub
  rwa [nums_len, nums_len] at this
theorem SortUp.done {ds rs : List Dg} (h : SortUp ds rs) (hn : ∀ n ∈ nums ds, ¬ Beh rs n) : SortedTo ds rs :=
  ⟨h.asc, fun n => ⟨h.sub n, fun hm => Classical.byContradiction fun hc => hn n hm (h.rest n hm hc)⟩⟩
theorem nums_snoc (rs : List Dg) (d : Dg) : nums (rs ++ [d]) = nums rs ++ [dN d] := by simp [nums]
theorem SortUp.more {ds rs : List Dg} {d : Dg} (h : SortUp ds rs) (hd : dN d ∈ nums ds) (hb : Beh rs (dN d)) (hmin : ∀ n ∈ nums ds, Beh rs n → dN d ≤ n) : SortUp ds (rs ++ [d]) := by
  refine ⟨?_, fun n hn => ?_, fun n hn hx m hm => ?_⟩
  · rw [nums_snoc, List.pairwise_append]
    refine ⟨h.asc, by simp, fun a ha b hb' => ?_⟩
    simp only [List.mem_singleton] at hb'
    subst hb'
    exact hb a ha
  · rw [nums_snoc, List.mem_append, List.mem_singleton] at hn
    rcases hn with hn | rfl
    · exact h.sub n hn
    · exact hd
  · rw [nums_snoc, List.mem_append, List.mem_singleton, not_or] at hx
    have hbn := h.rest n hn hx.1
    rw [nums_snoc, List.mem_append, List.mem_singleton] at hm
    rcases hm with hm | rfl
    · exact hbn m hm
    · have := hmin n hn hbn
      have := hx.2
      omega
theorem beh_nil (n : Nat) : Beh [] n := fun m hm => by cases hm
theorem beh_last {ds rs : List Dg} {d : Dg} (h : SortUp ds (rs ++ [d])) (n : Nat) : Beh (rs ++ [d]) n ↔ dN d < n := by
  constructor
  · intro hb
    exact hb (dN d) (by rw [nums_snoc]; simp)
  · intro hl m hm
    have ha := h.asc
    rw [nums_snoc, List.pairwise_append] at ha
    rw [nums_snoc, List.mem_append, List.mem_singleton] at hm
    rcases hm with hm | rfl
    · have := ha.2.2 m hm (dN d) (by simp)
      omega
    · exact hl
/-- The best of the first k. -/
def BestAt (ds rs : List Dg) (bst : Int) (k : Nat) : Prop :=
  (bst = -1 ∧ ∀ (j : Nat) d, j < k → ds[j]? = some d → ¬ Beh rs (dN d)) ∨
  ∃ (b : Nat) (e : Dg), bst = b ∧ b < k ∧ ds[b]? = some e ∧ Beh rs (dN e) ∧ ∀ (j : Nat) d, j < k → ds[j]? = some d → Beh rs (dN d) → dN e ≤ dN d
theorem BestAt.zero (ds rs : List Dg) : BestAt ds rs (-1) 0 := .inl ⟨rfl, fun j d hj => by omega⟩
theorem lt_succ_cases {j k : Nat} (h : j < k + 1) : j < k ∨ j = k := by omega
theorem BestAt.no {ds rs : List Dg} {bst : Int} {k : Nat} {d : Dg} (h : BestAt ds rs bst k) (hd : ds[k]? = some d) (hn : ¬ Beh rs (dN d)) : BestAt ds rs bst (k + 1) := by
  rcases h with ⟨h1, h2⟩ | ⟨b, e, h1, h2, h3, h4, h5⟩
  · refine .inl ⟨h1, fun j x hj hx => ?_⟩
    rcases lt_succ_cases hj with h | rfl
    · exact h2 j x h hx
    · rw [hd] at hx; cases hx; exact hn
  · refine .inr ⟨b, e, h1, by omega, h3, h4, fun j x hj hx hb => ?_⟩
    rcases lt_succ_cases hj with h | rfl
    · exact h5 j x h hx hb
    · rw [hd] at hx; cases hx; exact absurd hb hn
theorem BestAt.first {ds rs : List Dg} {k : Nat} {d : Dg} (h : BestAt ds rs (-1) k) (hd : ds[k]? = some d) (hb : Beh rs (dN d)) : BestAt ds rs (k : Nat) (k + 1) := by
  rcases h with ⟨_, h2⟩ | ⟨b, e, h1, _⟩
  · refine .inr ⟨k, d, rfl, by omega, hd, hb, fun j x hj hx hbx => ?_⟩
    rcases lt_succ_cases hj with h | rfl
    · exact absurd hbx (h2 j x h hx)
    · rw [hd] at hx; cases hx; exact Nat.le_refl _
  · omega
theorem BestAt.better {ds rs : List Dg} {k b : Nat} {d e : Dg} (h : BestAt ds rs (b : Nat) k) (hd : ds[k]? = some d) (hb : Beh rs (dN d)) (he : ds[b]? = some e) (hl : dN d < dN e) : BestAt ds rs (k : Nat) (k + 1) := by
  rcases h with ⟨h1, _⟩ | ⟨b', e', h1, h2, h3, h4, h5⟩
  · omega
  · obtain rfl : b = b' := by omega
    rw [he] at h3; cases h3
    refine .inr ⟨k, d, rfl, by omega, hd, hb, fun j x hj hx hbx => ?_⟩
    rcases lt_succ_cases hj with h | rfl
    · have := h5 j x h hx hbx; omega
    · rw [hd] at hx; cases hx; exact Nat.le_refl _
theorem BestAt.keep {ds rs : List Dg} {k b : Nat} {d e : Dg} (h : BestAt ds rs (b : Nat) k) (hd : ds[k]? = some d) (he : ds[b]? = some e) (hl : ¬ dN d < dN e) : BestAt ds rs (b : Nat) (k + 1) := by
  rcases h with ⟨h1, _⟩ | ⟨b', e', h1, h2, h3, h4, h5⟩
  · omega
  · obtain rfl : b = b' := by omega
    rw [he] at h3; cases h3
    refine .inr ⟨b, e, rfl, by omega, he, h4, fun j x hj hx hbx => ?_⟩
    rcases lt_succ_cases hj with h | rfl
    · exact h5 j x h hx hbx
    · rw [hd] at hx; cases hx; omega
theorem BestAt.form {ds rs : List Dg} {bst : Int} {k : Nat} (h : BestAt ds rs bst k) : bst = -1 ∨ ∃ b : Nat, ∃ e, bst = (b : Int) ∧ b < k ∧ ds[b]? = some e := by
  rcases h with ⟨h1, _⟩ | ⟨b, e, h1, h2, h3, _⟩
  · exact .inl h1
  · exact .inr ⟨b, e, h1, h2, h3⟩
theorem mem_nums {ds : List Dg} {n : Nat} (h : n ∈ nums ds) : ∃ (j : Nat) (d : Dg), j < ds.length ∧ ds[j]? = some d ∧ dN d = n := by
  simp only [nums, List.mem_map] at h
  obtain ⟨d, hd, rfl⟩ := h
  obtain ⟨j, hj, rfl⟩ := List.getElem_of_mem hd
  exact ⟨j, _, hj, List.getElem?_eq_getElem hj, rfl⟩
theorem BestAt.none {ds rs : List Dg} (h : BestAt ds rs (-1) ds.length) : ∀ n ∈ nums ds, ¬ Beh rs n := fun n hn => by
  rcases h with ⟨_, h2⟩ | ⟨b, e, h1, _⟩
  · obtain ⟨j, d, hj, hd, rfl⟩ := mem_nums hn
    exact h2 j d hj hd
  · omega
theorem BestAt.some {ds rs : List Dg} {b : Nat} {e : Dg} (h : BestAt ds rs (b : Nat) ds.length) (he : ds[b]? = some e) : dN e ∈ nums ds ∧ Beh rs (dN e) ∧ ∀ n ∈ nums ds, Beh rs n → dN e ≤ n := by
  rcases h with ⟨h1, _⟩ | ⟨b', e', h1, h2, h3, h4, h5⟩
  · omega
  · obtain rfl : b = b' := by omega
    rw [he] at h3; cases h3
    refine ⟨List.mem_of_getElem? (nums_get ds b e he), h4, fun n hn hb => ?_⟩
    obtain ⟨j, d, hj, hd, rfl⟩ := mem_nums hn
    exact h5 j d hj hd hb
end Go.Proofs.Ythkjfgncbmpllaa
