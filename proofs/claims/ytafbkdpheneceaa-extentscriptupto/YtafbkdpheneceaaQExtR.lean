import Derived.Test.YtafbkdpheneceaaQExtC
namespace Go.Proofs.Ytafbkdpheneceaa
open Go.RowKit

/-! The ranges, one sector more -/
def addR (p : Nat) (t : Bool) : List (Nat × Nat) → List (Nat × Nat)
  | [] => bif t then [] else [(p, 1)]
  | [(x, n)] => bif t then [(x, n)] else if x + n = p then [(x, n + 1)] else [(x, n), (p, 1)]
  | q :: q2 :: r => q :: addR p t (q2 :: r)
def frontR (a : Nat) (l : List (Nat × Nat)) : List (Nat × Nat) :=
  match l with
  | [] => [(a, 1)]
  | (x, n) :: r => if x = a + 1 then (a, n + 1) :: r else (a, 1) :: (x, n) :: r
theorem runs_front (f : Nat → Bool) (a k : Nat) : runs f a (k + 1) = bif f a then runs f (a + 1) k else frontR a (runs f (a + 1) k) := by
  rw [runs]; rfl
theorem front_add (a p : Nat) (t : Bool) : ∀ l : List (Nat × Nat), frontR a (addR p t l) = addR p t (frontR a l)
  | [] => by
    cases t
    · simp only [addR, cond_false, frontR]
      by_cases h : p = a + 1
      · rw [if_pos h, if_pos h.symm]
      · rw [if_neg h, if_neg (fun e => h e.symm)]
    · simp [addR, frontR]
  | [(x, n)] => by
    cases t
    · simp only [addR, cond_false, frontR]
      by_cases h : x = a + 1
      · rw [if_pos h]
        by_cases h2 : x + n = p
        · rw [if_pos h2]; simp only [h, if_true, addR, cond_false]; rw [if_pos (by omega)]
        · rw [if_neg h2]; simp only [h, if_true, addR, cond_false]; rw [if_neg (by omega)]
      · rw [if_neg h]
        by_cases h2 : x + n = p
        · rw [if_pos h2]; simp only [h, if_false, addR, cond_false]; rw [if_pos h2]
        · rw [if_neg h2]; simp only [h, if_false, addR, cond_false]; rw [if_neg h2]
    · simp only [addR, cond_true, frontR]
      by_cases h : x = a + 1
      · rw [if_pos h]; simp [addR]
      · rw [if_neg h]; simp [addR]
  | (x, n) :: q2 :: r => by
    simp only [addR, frontR]
    by_cases h : x = a + 1
    · rw [if_pos h, if_pos h]; simp only [addR]
    · rw [if_neg h, if_neg h]; simp only [addR]
theorem runs_snoc (f : Nat → Bool) : ∀ k a, runs f a (k + 1) = addR (a + k) (f (a + k)) (runs f a k)
  | 0, a => by
    rw [runs_front]
    cases f a <;> simp [runs, addR, frontR]
  | k + 1, a => by
    rw [runs_front, runs_snoc f k (a + 1), runs_front f a k, show a + 1 + k = a + (k + 1) by omega]
    cases hf : f a
    · simp only [cond_false]; exact front_add a _ _ _
    · simp only [cond_true]
theorem addR_taken (p : Nat) : ∀ l, addR p true l = l
  | [] => rfl
  | [(x, n)] => rfl
  | q :: q2 :: r => by rw [addR, addR_taken p (q2 :: r)]
theorem addR_more (p : Nat) : ∀ l : List (Nat × Nat), (∀ q, l.getLast? = some q → q.1 + q.2 ≠ p) → addR p false l = l ++ [(p, 1)]
  | [], _ => rfl
  | [(x, n)], h => by
    have := h (x, n) rfl
    simp only [addR, cond_false]
    rw [if_neg this]; rfl
  | q :: q2 :: r, h => by
    rw [addR, addR_more p (q2 :: r) (fun z hz => h z (by simpa using hz))]; rfl
theorem addR_last (p : Nat) : ∀ (l : List (Nat × Nat)) (x n : Nat), l.getLast? = some (x, n) → x + n = p → addR p false l = l.set (l.length - 1) (x, n + 1)
  | [], x, n, h, _ => by simp at h
  | [(y, m)], x, n, h, h2 => by
    simp at h
    obtain ⟨rfl, rfl⟩ := h
    simp only [addR, cond_false]
    rw [if_pos h2]; rfl
  | q :: q2 :: r, x, n, h, h2 => by
    rw [addR, addR_last p (q2 :: r) x n (by simpa using h) h2]
    simp
/-- The last of ranges that rise ends highest. -/
theorem rises_top {z : Nat} : ∀ {l : List (Nat × Nat)} {a : Nat} (_ : Rises z a l) (q : Nat × Nat), l.getLast? = some q → ∀ p ∈ l, p.1 + p.2 ≤ q.1 + q.2
  | [], _, _, q, h, p, hp => by simp at hp
  | [(x, n)], a, _, q, h, p, hp => by
    simp at h hp
    subst h; subst hp
    exact Nat.le_refl _
  | (x, n) :: q2 :: r, a, hr, q, h, p, hp => by
    obtain ⟨h1, h2, h3, h4⟩ := hr
    have hq : (q2 :: r).getLast? = some q := by simpa using h
    rcases List.mem_cons.1 hp with rfl | hp
    · have h5 := rises_top h4 q hq q2 (by simp)
      obtain ⟨y, m⟩ := q2
      obtain ⟨g1, g2, g3, g4⟩ := h4
      simp only at h5 ⊢
      omega
    · exact rises_top h4 q hq p hp
theorem runs_touch (f : Nat → Bool) (a k : Nat) (q : Nat × Nat) (h : (runs f a (k + 1)).getLast? = some q) : q.1 + q.2 = a + (k + 1) ↔ f (a + k) = false := by
  have hr := runs_rises f (k + 1) a
  have hm := List.mem_of_getLast? h
  have hq : 1 ≤ q.2 ∧ a ≤ q.1 ∧ q.1 + q.2 ≤ a + (k + 1) := by
    obtain ⟨i, hi⟩ := List.mem_iff_getElem?.1 hm
    exact rises_at hr i q hi
  have hin := runs_in f (a + k) (k + 1) a
  rw [decide_eq_true (by omega), Bool.true_and] at hin
  constructor
  · intro he
    have : isIn (a + k) (runs f a (k + 1)) = true := by
      obtain ⟨x, n⟩ := q
      exact isIn_mem hm (by simp only at he hq; omega) (by simp only at he hq; omega)
    rw [this] at hin
    simpa using hin.symm
  · intro hf
    rw [hf] at hin
    unfold isIn at hin
    rw [Bool.not_false, List.any_eq_true] at hin
    obtain ⟨p, hp, hpi⟩ := hin
    have hpi' := of_decide_eq_true hpi
    have := rises_top hr q h p hp
    omega
theorem runs_none (f : Nat → Bool) (a k : Nat) (h : (runs f a (k + 1)).getLast? = none) : f (a + k) = true := by
  have hn : runs f a (k + 1) = [] := List.getLast?_eq_none_iff.1 h
  have hin := runs_in f (a + k) (k + 1) a
  rw [hn, decide_eq_true (by omega), Bool.true_and] at hin
  have : isIn (a + k) [] = false := rfl
  rw [this] at hin
  simpa using hin.symm
/-! A pair's second number stored -/
theorem flK_snd : ∀ (ds : List Pr) (k : Nat) (d : Pr) (z : Int), ds[k]? = some d → (flK prE ds).set (k * 2 + 1) (.int .i64 z) = flK prE (ds.set k (d.1, z))
  | [], k, d, z, h => by simp at h
  | x :: r, 0, d, z, h => by
    simp at h
    subst h
    rw [flK, List.set_cons_zero, flK, prE_enc, prE_enc]
    rfl
  | x :: r, k + 1, d, z, h => by
    have hl : (prE.enc x).length = 2 := by rw [prE_ok.len x]; rfl
    have h' : r[k]? = some d := by simpa using h
    rw [flK, List.set_cons_succ, flK, List.set_append_right _ _ (by omega), hl, show (k + 1) * 2 + 1 - 2 = k * 2 + 1 by omega, flK_snd r k d z h']
theorem OwnK.snd {w : World} {B g n c : Nat} {ds : List Pr} (h : OwnK prE w B (.slice (some ⟨g, 0, none⟩) n c) ds) (k : Nat) (d : Pr) (z : Int) (hd : ds[k]? = some d) :
    OwnK prE (w.setCell ⟨g, k * 2 + 1, none⟩ (.int .i64 z)) B (.slice (some ⟨g, 0, none⟩) n c) (ds.set k (d.1, z)) := by
  obtain ⟨cur, h1, h2, h3, h4, h5, h6, h7⟩ := h.heap
  have hk : k < ds.length := (List.getElem?_eq_some_iff.1 hd).1
  have hlen : (flK prE ds).length = ds.length * 2 := by rw [flK_len prE_ok]; rfl
  refine ⟨by rw [flK_len prE_ok], .inr ⟨g, c, cur.setIfInBounds (k * 2 + 1) (.int .i64 z), by rw [List.length_set, h1], h2, heap_setCell w g _ _ cur _ _ h3, ?_, h5, ?_, ?_⟩⟩
  · rw [List.length_set]; omega
  · rw [Array.size_setIfInBounds]; exact h6
  · rw [List.length_set, Array.toList_setIfInBounds, List.take_set, ← h1, h7]
    exact flK_snd ds k d z hd
theorem OwnK.frozenP {w : World} {B g n c : Nat} {ds : List Pr} (h : OwnK prE w B (.slice (some ⟨g, 0, none⟩) n c) ds) (j : Nat) : w.frozen? ⟨g, j, none⟩ = false := by
  obtain ⟨cur, h1, h2, h3, h4, h5, h6, h7⟩ := h.heap
  simp [World.frozen?, h3]
end Go.Proofs.Ytafbkdpheneceaa
