
import Derived.Test.YtmbkkdojjfdliaaBat7
namespace Go.Proofs.Ytmbkkdojjfdliaa
open Go.RowKit

/-! Parts of lists of lists -/
theorem IsLL.take {w : World} {x : Option Addr} {n c : Nat} {C : List (List Wr)} (h : IsLL w (.slice x n c) C) (k : Nat) (hk : k ≤ n) : IsLL w (.slice x k c) (C.take k) := by
  obtain ⟨us, h1, h2, h3⟩ := h
  refine ⟨us.take k, ?_, by rw [List.length_take, List.length_take, h2], fun i ds hi => ?_⟩
  · rcases h1 with ⟨he, rfl⟩ | ⟨y, d, he, hc⟩
    · simp only [Value.slice.injEq] at he
      obtain ⟨rfl, rfl, rfl⟩ := he
      obtain rfl : k = 0 := by omega
      exact .inl ⟨rfl, rfl⟩
    · simp only [Value.slice.injEq] at he
      obtain ⟨rfl, rfl, rfl⟩ := he
      refine .inr ⟨y, c, by rw [List.length_take, Nat.min_eq_left hk], fun i hi => ?_⟩
      rw [List.length_take] at hi
      rw [hc i (by omega), List.getElem_take]
  · have hl := (List.getElem?_eq_some_iff.1 hi).1
    rw [List.length_take] at hl
    rw [List.getElem?_take_of_lt (by omega)] at hi
    obtain ⟨y, d, k1, k2⟩ := h3 i ds hi
    exact ⟨y, d, by rw [List.getElem?_take_of_lt (by omega)]; exact k1, k2⟩
theorem IsLL.drop {w : World} {b o n c : Nat} {C : List (List Wr)} (h : IsLL w (.slice (some ⟨b, o, none⟩) n c) C) (k : Nat) (hk : k ≤ n) (hc : n ≤ c) : IsLL w (.slice (if c = k then some ⟨b, o, none⟩ else some ⟨b, o + k, none⟩) (n - k) (c - k)) (C.drop k) := by
  obtain ⟨us, h1, h2, h3⟩ := h
  refine ⟨us.drop k, ?_, by rw [List.length_drop, List.length_drop, h2], fun i ds hi => ?_⟩
  · rcases h1 with ⟨he, rfl⟩ | ⟨y, d, he, hcl⟩
    · simp at he
    · simp only [Value.slice.injEq, Option.some.injEq] at he
      obtain ⟨rfl, rfl, rfl⟩ := he
      by_cases e : c = k
      · rw [if_pos e]
        exact .inr ⟨_, c - k, by rw [List.length_drop], fun i hi => by rw [List.length_drop] at hi; omega⟩
      · rw [if_neg e]
        refine .inr ⟨_, c - k, by rw [List.length_drop], fun i hi => ?_⟩
        rw [List.length_drop] at hi
        have := hcl (k + i) (by omega)
        rw [addr_add] at this ⊢
        rw [Nat.add_assoc, this, List.getElem_drop]
  · rw [List.getElem?_drop] at hi
    obtain ⟨y, d, k1, k2⟩ := h3 (k + i) ds hi
    exact ⟨y, d, by rw [List.getElem?_drop]; exact k1, k2⟩
theorem flat_next (C : List (List Wr)) (a i : Nat) (d : List Wr) (ha : a ≤ i) (h : C[i]? = some d) : ((C.take (i + 1)).drop a).flatten = ((C.take i).drop a).flatten ++ d := by
  have hl := (List.getElem?_eq_some_iff.1 h).1
  rw [List.take_add_one, h, List.drop_append_of_le_length (by rw [List.length_take]; omega), List.flatten_append]
  simp
theorem flat_len (S : List Wr) (a i : Nat) : (((cutW S).take i).drop a).flatten.length ≤ S.length := by
  have h : (cutW S).flatten.length = S.length := by rw [cutW_all]
  have h1 : ((cutW S).take i ++ (cutW S).drop i).flatten.length = S.length := by rw [List.take_append_drop]; exact h
  have h2 : (((cutW S).take i).take a ++ ((cutW S).take i).drop a).flatten.length = ((cutW S).take i).flatten.length := by rw [List.take_append_drop]
  rw [List.flatten_append, List.length_append] at h1 h2
  omega
/-- A list of one's own is nothing, or lies at the beginning of a row. -/
theorem OwnG.cases {e : TypeId} {w : World} {B : Nat} {x : Option Addr} {n c : Nat} {xs : List Value} (h : OwnG e w B (.slice x n c) xs) : (x = none ∧ n = 0 ∧ c = 0) ∨ ∃ g, x = some ⟨g, 0, none⟩ ∧ g < w.heap.size ∧ n ≤ c := by
  have h' := h
  obtain ⟨_, ⟨he, hn⟩ | ⟨g, cap, cur, he, hb, hg, hle, hm, hs, ht⟩⟩ := h
  · simp only [Value.slice.injEq] at he
    exact .inl he
  · simp only [Value.slice.injEq] at he
    obtain ⟨rfl, rfl, rfl⟩ := he
    exact .inr ⟨g, rfl, (Array.getElem?_eq_some_iff.1 hg).1, hle⟩
end Go.Proofs.Ytmbkkdojjfdliaa
