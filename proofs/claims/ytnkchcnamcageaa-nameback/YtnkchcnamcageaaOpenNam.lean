
import Derived.Test.YtnkchcnamcageaaOpenSha
import Derived.ChangeMaps5
namespace Go.Proofs.Ytnkchcnamcageaa
open Go.ChangeShapes Go.WideShapes Go.ChangeAt Go.RowKit

/-! Opening a string, two of them; what the reach gives -/
set_option maxRecDepth 100000 in
theorem open_str13 {H : Type} {enc : TypeId × Value → H} {w : World} {base b0 : Nat} {spare : Nat → Bool} {held : Bool} {r : Reach} {v : Value} {d : DataW H} {ps : List MemPlace}
    (hval : Value.okWide Try.prog w r b0 9 v) (hd : DataW.Trod enc Try.prog w base spare held 9 v d ps) : ∃ s : ByteArray, v = .string s ∧ d = .lit (.string s.data.toList) ∧ s.size ≤ 9223372036854775807 := by
  obtain ⟨s, h1, h2, -, h3⟩ := Go.ChangeMaps.open_string Try.underlying9 hval hd
  exact ⟨s, h1, h2, by unfold maxLen at h3; omega⟩
set_option maxRecDepth 100000 in
theorem str_sized {H : Type} {ds : List (DataW H)} {ts : List TypeId} {s : ByteArray} {j : Nat} (h : (DataW.weightsEach Try.prog ts ds).all (fun x => decide (x ≤ reachBytes)) = true) (ht : ts[j]? = some 9) (hd : ds[j]? = some (.lit (.string s.data.toList))) :
    s.size ≤ 140737488351232 := by
  have := List.all_eq_true.1 h _ (DataW.weights_mem_each ht hd s.data.toList.length (by simp [DataW.weights]))
  have h2 := of_decide_eq_true this
  simp only [reachBytes] at h2
  have e : s.data.toList.length = s.size := by rw [Array.length_toList]; rfl
  omega
theorem cellsStr : Try.prog.cellsOf 9 = 1 := by kernel_rfl
set_option maxRecDepth 100000 in
theorem open_texts {H : Type} {enc : TypeId × Value → H} {w : World} {base b0 : Nat} {spare : Nat → Bool} {held : Bool} {r : Reach} {v : Value} {d : DataW H} {ps : List MemPlace}
    (hval : Value.okWide Try.prog w r b0 35 v) (hd : DataW.Trod enc Try.prog w base spare held 35 v d ps) :
    ∃ s t : ByteArray, v = .agg #[.string s, .string t] ∧ s.size ≤ 9223372036854775807 ∧ t.size ≤ 9223372036854775807 := by
  obtain ⟨cs, rfl, _⟩ := okWide_struct Try.underlying35 hval
  obtain ⟨fuel, hf⟩ := hd
  obtain ⟨xs, n, _, hx, hl, hn, hg⟩ := DataW.trod_struct Try.underlying35 hf
  have hl2 : cs.toList.length = 2 := by rw [show (Value.agg cs).cells = cs from rfl] at hl; rw [hl]; kernel_rfl
  have hn2 : xs.length = 2 := hn
  obtain ⟨c0, c1, hcs⟩ : ∃ a b, cs.toList = [a, b] := by
    match hq : cs.toList, hl2 with
    | [a, b], _ => exact ⟨a, b, rfl⟩
  obtain ⟨x0, x1, rfl⟩ : ∃ a b, xs = [a, b] := by
    match xs, hn2 with
    | [a, b], _ => exact ⟨a, b, rfl⟩
  rw [show (Value.agg cs).cells = cs from rfl, hcs] at hg
  have g0 : DataW.trod enc Try.prog w base spare held n 9 [c0] = some x0 := by
    have q : DataW.trod enc Try.prog w base spare held n 9 (List.take (Try.prog.cellsOf 9) (List.drop 0 [c0, c1])) = some x0 := hg 0 _ rfl
    rw [cellsStr] at q
    exact q
  have g1 : DataW.trod enc Try.prog w base spare held n 9 [c1] = some x1 := by
    have q : DataW.trod enc Try.prog w base spare held n 9 (List.take (Try.prog.cellsOf 9) (List.drop 1 [c0, c1])) = some x1 := hg 1 _ rfl
    rw [cellsStr] at q
    exact q
  obtain ⟨s, e0, _, w0⟩ := DataW.trod_string Try.underlying9 g0
  obtain ⟨t, e1, _, w1⟩ := DataW.trod_string Try.underlying9 g1
  simp only [List.cons.injEq, and_true] at e0 e1
  subst e0 e1
  exact ⟨s, t, by rw [← Array.toArray_toList (xs := cs), hcs], by unfold maxLen at w0; omega, by unfold maxLen at w1; omega⟩
end Go.Proofs.Ytnkchcnamcageaa
