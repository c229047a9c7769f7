
import Derived.Test.YtmbkkdojjfdliaaDev3
namespace Go.Proofs.Ytmbkkdojjfdliaa
open Go.RowKit

/-! Writes in order: plain mathematics -/
def insW (x : Wr) : List Wr → List Wr
  | [] => [x]
  | y :: r => if y.1 < x.1 then y :: insW x r else if y.1 = x.1 then x :: r else x :: y :: r
def srtW (l : List Wr) : List Wr := l.foldl (fun a x => insW x a) []
theorem insW_len (x : Wr) : ∀ A : List Wr, (insW x A).length ≤ A.length + 1
  | [] => by simp [insW]
  | y :: r => by
    have h := insW_len x r
    unfold insW
    split
    · simp only [List.length_cons]; omega
    · split <;> simp
theorem insW_front (x : Wr) : ∀ (A : List Wr) (a : Nat), (∀ j, j < a → ∀ d, A[j]? = some d → d.1 < x.1) → a ≤ A.length → insW x A = A.take a ++ insW x (A.drop a)
  | A, 0, _, _ => by simp
  | [], a + 1, _, h => by simp at h
  | y :: r, a + 1, h, hl => by
    have h0 := h 0 (by omega) y rfl
    have h1 := insW_front x r a (fun j hj d hd => h (j + 1) (by omega) d (by simpa using hd)) (by simpa using hl)
    rw [insW, if_pos h0, h1]
    simp
theorem insW_eq (x : Wr) (A : List Wr) (a : Nat) (d : Wr) (h : ∀ j, j < a → ∀ d, A[j]? = some d → d.1 < x.1) (hd : A[a]? = some d) (he : d.1 = x.1) : insW x A = A.set a x := by
  have hl := (List.getElem?_eq_some_iff.1 hd).1
  rw [insW_front x A a h (by omega)]
  have e : A.drop a = d :: A.drop (a + 1) := by
    rw [List.getElem?_eq_getElem hl] at hd
    rw [List.drop_eq_getElem_cons hl, Option.some.inj hd]
  rw [e, insW, if_neg (by omega), if_pos he, List.set_eq_take_append_cons_drop, if_pos hl]
theorem insW_ne (x : Wr) (A : List Wr) (a : Nat) (h : ∀ j, j < a → ∀ d, A[j]? = some d → d.1 < x.1) (ha : a ≤ A.length) (hd : ∀ d, A[a]? = some d → ¬ d.1 < x.1 ∧ ¬ d.1 = x.1) : insW x A = A.take a ++ [x] ++ A.drop a := by
  rw [insW_front x A a h ha]
  cases e : A.drop a with
  | nil => simp [insW]
  | cons d r =>
    have hd2 : A[a]? = some d := by
      have : (A.drop a)[0]? = some d := by rw [e]; rfl
      simpa using this
    obtain ⟨h1, h2⟩ := hd d hd2
    rw [insW, if_neg h1, if_neg h2]
    simp
theorem srtW_snoc (l : List Wr) (x : Wr) : srtW (l ++ [x]) = insW x (srtW l) := by simp [srtW]
theorem srtW_take (l : List Wr) (i : Nat) (x : Wr) (h : l[i]? = some x) : srtW (l.take (i + 1)) = insW x (srtW (l.take i)) := by
  rw [List.take_add_one, h]
  exact srtW_snoc _ _
theorem foldl_insW : ∀ (l A : List Wr), (l.foldl (fun a x => insW x a) A).length ≤ A.length + l.length
  | [], A => by simp
  | x :: r, A => by
    have h1 := foldl_insW r (insW x A)
    have h2 := insW_len x A
    simp only [List.foldl_cons, List.length_cons]
    omega
theorem srtW_len (l : List Wr) : (srtW l).length ≤ l.length := by
  have := foldl_insW l []
  simpa [srtW] using this
end Go.Proofs.Ytmbkkdojjfdliaa
