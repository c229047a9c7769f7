
import Derived.Test.YtmbkkdojjfdliaaBatM
namespace Go.Proofs.Ytmbkkdojjfdliaa
open Go.RowKit

/-! Writes that rise; batches; what is left -/
def RiseW (A : List Wr) : Prop := A.Pairwise (fun a b => a.1 < b.1)
theorem mem_insW_le (x : Wr) : ∀ (A : List Wr) (d : Wr), d ∈ insW x A → d = x ∨ d ∈ A
  | [], d, h => by simp [insW] at h; exact .inl h
  | y :: r, d, h => by
    unfold insW at h
    split at h
    · rcases List.mem_cons.1 h with h1 | h1
      · exact .inr (by simp [h1])
      · rcases mem_insW_le x r d h1 with h2 | h2
        · exact .inl h2
        · exact .inr (by simp [h2])
    · split at h
      · rcases List.mem_cons.1 h with h1 | h1
        · exact .inl h1
        · exact .inr (by simp [h1])
      · rcases List.mem_cons.1 h with h1 | h1
        · exact .inl h1
        · exact .inr h1
theorem insW_rise (x : Wr) : ∀ (A : List Wr), RiseW A → RiseW (insW x A)
  | [], _ => by simp [insW, RiseW]
  | y :: r, h => by
    obtain ⟨h1, h2⟩ := List.pairwise_cons.1 h
    unfold insW
    split
    · rename_i hlt
      refine List.pairwise_cons.2 ⟨fun d hd => ?_, insW_rise x r h2⟩
      rcases mem_insW_le x r d hd with rfl | hd
      · exact hlt
      · exact h1 d hd
    · split
      · rename_i he
        exact List.pairwise_cons.2 ⟨fun d hd => by have := h1 d hd; omega, h2⟩
      · refine List.pairwise_cons.2 ⟨fun d hd => ?_, h⟩
        rcases List.mem_cons.1 hd with rfl | hd
        · omega
        · have := h1 d hd; omega
theorem mem_insW (x : Wr) : ∀ (A : List Wr) (d : Wr), RiseW A → (d ∈ insW x A ↔ d = x ∨ (d ∈ A ∧ d.1 ≠ x.1))
  | [], d, _ => by simp [insW]
  | y :: r, d, h => by
    obtain ⟨h1, h2⟩ := List.pairwise_cons.1 h
    unfold insW
    split
    · rename_i hlt
      rw [List.mem_cons, mem_insW x r d h2, List.mem_cons]
      constructor
      · rintro (rfl | rfl | ⟨h3, h4⟩)
        · exact .inr ⟨.inl rfl, by omega⟩
        · exact .inl rfl
        · exact .inr ⟨.inr h3, h4⟩
      · rintro (rfl | ⟨rfl | h3, h4⟩)
        · exact .inr (.inl rfl)
        · exact .inl rfl
        · exact .inr (.inr ⟨h3, h4⟩)
    · split
      · rename_i he
        rw [List.mem_cons, List.mem_cons]
        constructor
        · rintro (rfl | h3)
          · exact .inl rfl
          · exact .inr ⟨.inr h3, by have := h1 d h3; omega⟩
        · rintro (rfl | ⟨rfl | h3, h4⟩)
          · exact .inl rfl
          · exact absurd he h4
          · exact .inr h3
      · rename_i hn he
        rw [List.mem_cons]
        constructor
        · rintro (rfl | h3)
          · exact .inl rfl
          · refine .inr ⟨h3, ?_⟩
            rcases List.mem_cons.1 h3 with rfl | h3
            · exact he
            · have := h1 d h3; omega
        · rintro (rfl | ⟨h3, -⟩)
          · exact .inl rfl
          · exact .inr h3
theorem foldl_rise : ∀ (l A : List Wr), RiseW A → RiseW (l.foldl (fun a x => insW x a) A)
  | [], _, h => h
  | x :: r, A, h => foldl_rise r _ (insW_rise x A h)
theorem srtW_rise (l : List Wr) : RiseW (srtW l) := foldl_rise l [] List.Pairwise.nil
/-- Which write counts: the last one at its sector. -/
theorem srtW_mem (l : List Wr) (d : Wr) : d ∈ srtW l ↔ ∃ k : Nat, l[k]? = some d ∧ ∀ (j : Nat) (e : Wr), k < j → l[j]? = some e → e.1 ≠ d.1 := by
  suffices h : ∀ i, i ≤ l.length → (d ∈ srtW (l.take i) ↔ ∃ k : Nat, k < i ∧ l[k]? = some d ∧ ∀ (j : Nat) (e : Wr), k < j → j < i → l[j]? = some e → e.1 ≠ d.1) by
    have := h l.length (Nat.le_refl _)
    rw [List.take_length] at this
    rw [this]
    constructor
    · rintro ⟨k, hk, h1, h2⟩
      exact ⟨k, h1, fun j e hj he => h2 j e hj (List.getElem?_eq_some_iff.1 he).1 he⟩
    · rintro ⟨k, h1, h2⟩
      exact ⟨k, (List.getElem?_eq_some_iff.1 h1).1, h1, fun j e hj _ he => h2 j e hj he⟩
  intro i
  induction i with
  | zero => intro _; simp [srtW]
  | succ i ih =>
    intro hi
    have ih := ih (by omega)
    obtain ⟨x, hx⟩ : ∃ x, l[i]? = some x := ⟨_, List.getElem?_eq_getElem (by omega)⟩
    rw [srtW_take l i x hx, mem_insW x _ d (srtW_rise _), ih]
    constructor
    · rintro (rfl | ⟨⟨k, hk, h1, h2⟩, h3⟩)
      · exact ⟨i, by omega, hx, fun j e h1 h2 => by omega⟩
      · refine ⟨k, by omega, h1, fun j e h4 h5 he => ?_⟩
        by_cases hji : j < i
        · exact h2 j e h4 hji he
        · obtain rfl : j = i := by omega
          rw [hx] at he; cases he
          exact fun q => h3 q.symm
    · rintro ⟨k, hk, h1, h2⟩
      by_cases hki : k < i
      · exact .inr ⟨⟨k, hki, h1, fun j e h3 h4 he => h2 j e h3 (by omega) he⟩, fun q => h2 i x hki (by omega) hx q.symm⟩
      · obtain rfl : k = i := by omega
        rw [hx] at h1; cases h1
        exact .inl rfl
/-- Every sector that is written is there. -/
theorem srtW_at (l : List Wr) (k : Nat) (x : Wr) (h : l[k]? = some x) : ∃ d ∈ srtW l, d.1 = x.1 := by
  suffices hs : ∀ (n k : Nat) (x : Wr), l[k]? = some x → l.length - k ≤ n → ∃ d ∈ srtW l, d.1 = x.1 from hs _ k x h (Nat.le_refl _)
  intro n
  induction n with
  | zero => intro k x h hn; have := (List.getElem?_eq_some_iff.1 h).1; omega
  | succ n ih =>
    intro k x h hn
    by_cases hc : ∃ (j : Nat) (e : Wr), k < j ∧ l[j]? = some e ∧ e.1 = x.1
    · obtain ⟨j, e, h1, h2, h3⟩ := hc
      obtain ⟨d, hd, he⟩ := ih j e h2 (by have := (List.getElem?_eq_some_iff.1 h2).1; omega)
      exact ⟨d, hd, he.trans h3⟩
    · exact ⟨x, (srtW_mem l x).2 ⟨k, h, fun j e h1 h2 h3 => hc ⟨j, e, h1, h2, h3⟩⟩, rfl⟩
theorem insW_top (x : Wr) : ∀ A : List Wr, (∀ d ∈ A, d.1 < x.1) → insW x A = A ++ [x]
  | [], _ => rfl
  | y :: r, h => by
    rw [insW, if_pos (h y (by simp)), insW_top x r (fun d hd => h d (by simp [hd]))]
    rfl
/-- What rises stays as it is. -/
theorem srtW_id (A : List Wr) (h : RiseW A) : srtW A = A := by
  suffices hs : ∀ i, i ≤ A.length → srtW (A.take i) = A.take i by
    have := hs A.length (Nat.le_refl _)
    rwa [List.take_length] at this
  intro i
  induction i with
  | zero => intro _; simp [srtW]
  | succ i ih =>
    intro hi
    obtain ⟨x, hx⟩ : ∃ x, A[i]? = some x := ⟨_, List.getElem?_eq_getElem (by omega)⟩
    rw [srtW_take A i x hx, ih (by omega), insW_top, List.take_add_one, hx]
    · rfl
    · intro d hd
      obtain ⟨j, hj⟩ := List.mem_iff_getElem?.1 hd
      have hji : j < i := by
        rcases Nat.lt_or_ge j i with h1 | h1
        · exact h1
        · rw [List.getElem?_take_eq_none h1] at hj; cases hj
      rw [List.getElem?_take_of_lt hji] at hj
      have hjl := (List.getElem?_eq_some_iff.1 hj).1
      have := (List.pairwise_iff_getElem.1 h) j i hjl (by omega) hji
      rw [List.getElem?_eq_getElem hjl] at hj
      rw [List.getElem?_eq_getElem (by omega)] at hx
      cases hj; cases hx
      exact this
theorem rise_drop (A : List Wr) (k : Nat) (h : RiseW A) : RiseW (A.drop k) := h.sublist (List.drop_sublist k A)
def nbW (n : Nat) : Nat := (n + 7) / 8
def cutW (S : List Wr) : List (List Wr) := (List.range (nbW S.length)).map fun i => (S.drop (8 * i)).take 8
theorem cutW_len (S : List Wr) : (cutW S).length = nbW S.length := by simp [cutW]
theorem cutW_get (S : List Wr) (i : Nat) (h : i < nbW S.length) : (cutW S)[i]? = some ((S.drop (8 * i)).take 8) := by
  unfold cutW
  rw [List.getElem?_map, List.getElem?_range h]
  rfl
theorem cutW_flat (S : List Wr) : ∀ i, i ≤ nbW S.length → ((cutW S).take i).flatten = S.take (8 * i)
  | 0, _ => by simp
  | i + 1, h => by
    rw [List.take_add_one, cutW_get S i (by omega), List.flatten_append, cutW_flat S i (by omega)]
    simp only [Option.toList_some, List.flatten_cons, List.flatten_nil, List.append_nil]
    rw [Nat.mul_add, Nat.mul_one, List.take_add]
theorem cutW_rest (S : List Wr) (i : Nat) (h : i ≤ nbW S.length) : ((cutW S).drop i).flatten = S.drop (8 * i) := by
  have h1 : ((cutW S).take i ++ (cutW S).drop i).flatten = S := by
    rw [List.take_append_drop]
    have := cutW_flat S (nbW S.length) (Nat.le_refl _)
    rwa [List.take_of_length_le (by rw [cutW_len]; exact Nat.le_refl _), List.take_of_length_le (by unfold nbW; omega)] at this
  rw [List.flatten_append, cutW_flat S i h] at h1
  exact List.append_cancel_left (h1.trans (List.take_append_drop (8 * i) S).symm)
theorem cutW_all (S : List Wr) : (cutW S).flatten = S := by simpa using cutW_rest S 0 (Nat.zero_le _)
theorem cutW_drop (S : List Wr) (n : Nat) (h : n ≤ nbW S.length) : cutW (S.drop (8 * n)) = (cutW S).drop n := by
  have hl : nbW (S.drop (8 * n)).length = nbW S.length - n := by rw [List.length_drop]; unfold nbW at *; omega
  apply List.ext_getElem?
  intro i
  rw [List.getElem?_drop]
  by_cases hi : i < nbW S.length - n
  · rw [cutW_get _ i (by omega), cutW_get S (n + i) (by omega), List.drop_drop, Nat.mul_add]
  · rw [List.getElem?_eq_none (by rw [cutW_len]; omega), List.getElem?_eq_none (by rw [cutW_len]; omega)]
/-- One write more. -/
theorem cutW_new (S : List Wr) (x : Wr) (h : S.length % 8 = 0) : cutW (S ++ [x]) = cutW S ++ [[x]] := by
  have h1 : nbW (S ++ [x]).length = nbW S.length + 1 := by rw [List.length_append]; unfold nbW; simp; omega
  have h2 : 8 * nbW S.length = S.length := by unfold nbW; omega
  apply List.ext_getElem?
  intro i
  rcases Nat.lt_trichotomy i (nbW S.length) with hi | hi | hi
  · rw [cutW_get _ i (by omega), List.getElem?_append_left (by rw [cutW_len]; exact hi), cutW_get S i hi, List.drop_append_of_le_length (by omega), List.take_append_of_le_length (by rw [List.length_drop]; omega)]
  · subst hi
    rw [cutW_get _ _ (by omega), List.getElem?_append_right (by rw [cutW_len]; exact Nat.le_refl _), cutW_len, Nat.sub_self, h2]
    simp
  · rw [List.getElem?_eq_none (by rw [cutW_len]; omega), List.getElem?_eq_none (by rw [List.length_append, cutW_len]; simp; omega)]
theorem cutW_more (S : List Wr) (x : Wr) (h : S.length % 8 ≠ 0) : cutW (S ++ [x]) = (cutW S).set (nbW S.length - 1) (((cutW S)[nbW S.length - 1]?.getD []) ++ [x]) := by
  have h1 : nbW (S ++ [x]).length = nbW S.length := by rw [List.length_append]; unfold nbW; simp; omega
  have h2 : 0 < nbW S.length := by unfold nbW; omega
  have h3 : 8 * (nbW S.length - 1) < S.length ∧ S.length < 8 * (nbW S.length - 1) + 8 := by unfold nbW at *; omega
  apply List.ext_getElem?
  intro i
  rcases Nat.lt_trichotomy i (nbW S.length - 1) with hi | hi | hi
  · rw [cutW_get _ i (by omega), List.getElem?_set_ne (by omega), cutW_get S i (by omega), List.drop_append_of_le_length (by omega), List.take_append_of_le_length (by rw [List.length_drop]; omega)]
  · subst hi
    rw [cutW_get _ _ (by omega), List.getElem?_set_self (by rw [cutW_len]; omega), cutW_get S _ (by omega), List.drop_append_of_le_length (by omega)]
    simp only [Option.getD_some]
    rw [List.take_of_length_le (by rw [List.length_append, List.length_drop]; simp; omega), List.take_of_length_le (l := S.drop _) (by rw [List.length_drop]; omega)]
  · rw [List.getElem?_eq_none (by rw [cutW_len]; omega), List.getElem?_eq_none (by rw [List.length_set, cutW_len]; omega)]
def hasW (D : List (List Wr)) (a : Int) : Bool := D.any fun p => p.any fun y => y.1 == a
def leftW (S : List Wr) (D : List (List Wr)) : List Wr := S.filter fun x => !hasW D x.1
theorem leftW_nil (S : List Wr) : leftW S [] = S := by
  unfold leftW hasW
  simp
theorem leftW_take (S : List Wr) (D : List (List Wr)) (i : Nat) (x : Wr) (h : S[i]? = some x) : leftW (S.take (i + 1)) D = leftW (S.take i) D ++ (if hasW D x.1 then [] else [x]) := by
  unfold leftW
  rw [List.take_add_one, h, List.filter_append]
  congr 1
  simp only [Option.toList_some]
  cases he : hasW D x.1 <;> simp [he]
theorem hasW_flat (D : List (List Wr)) (a : Int) : hasW D a = D.flatten.any fun y => y.1 == a := by
  unfold hasW
  rw [List.any_flatten]
theorem leftW_first (S : List Wr) (n : Nat) (hS : RiseW S) (h : n ≤ nbW S.length) : leftW S ((cutW S).take n) = S.drop (8 * n) := by
  unfold leftW
  conv => lhs; rw [← List.take_append_drop (8 * n) S]
  rw [List.filter_append]
  have e1 : (S.take (8 * n)).filter (fun x => !hasW ((cutW (S.take (8 * n) ++ S.drop (8 * n))).take n) x.1) = [] := by
    rw [List.take_append_drop]
    apply List.filter_eq_nil_iff.2
    intro x hx
    rw [hasW_flat, cutW_flat S n h]
    simp only [Bool.not_eq_true', Bool.not_eq_false]
    exact List.any_eq_true.2 ⟨x, hx, by simp⟩
  have e2 : (S.drop (8 * n)).filter (fun x => !hasW ((cutW (S.take (8 * n) ++ S.drop (8 * n))).take n) x.1) = S.drop (8 * n) := by
    rw [List.take_append_drop]
    apply List.filter_eq_self.2
    intro x hx
    rw [hasW_flat, cutW_flat S n h]
    simp only [Bool.not_eq_true']
    rw [List.any_eq_false]
    intro y hy
    have hp : RiseW (S.take (8 * n) ++ S.drop (8 * n)) := by rw [List.take_append_drop]; exact hS
    have := (List.pairwise_append.1 hp).2.2 y hy x hx
    simp
    omega
  rw [e1, e2, List.nil_append]
theorem leftW_cut (S : List Wr) (hS : RiseW S) : leftW S (cutW S) = [] := by
  have h := leftW_first S (nbW S.length) hS (Nat.le_refl _)
  rw [List.take_of_length_le (by rw [cutW_len]; exact Nat.le_refl _)] at h
  rw [h]
  apply List.drop_eq_nil_of_le
  unfold nbW
  omega
end Go.Proofs.Ytmbkkdojjfdliaa
