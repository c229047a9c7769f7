import Derived.Test.YtfdigmlhjjdggaaQOpenSha
import Derived.ChangeMaps5
namespace Go.Proofs.Ytfdigmlhjjdggaa
open Go.ChangeShapes Go.WideShapes Go.ChangeAt Go.RowKit

/-! Opening a string, two of them; what the reach gives -/
set_option maxRecDepth 100000 in
theorem open_str13 {H : Type} {enc : TypeId × Value → H} {w : World} {base b0 : Nat} {spare : Nat → Bool} {held : Bool} {r : Reach} {v : Value} {d : DataW H} {ps : List MemPlace}
    (hval : Value.okWide Try.prog w r b0 9 v) (hd : DataW.Trod enc Try.prog w base spare held 9 v d ps) : ∃ s : ByteArray, v = .string s ∧ d = .lit (.string s.data.toList) ∧ s.size ≤ 9223372036854775807 := by
  obtain ⟨s, h1, h2, -, h3⟩ := Go.ChangeMaps.open_string Try.underlying9 hval hd
  exact ⟨s, h1, h2, by unfold maxLen at h3; omega⟩
set_option maxRecDepth 100000 in
theorem str_sized {H : Type} {ds : List (DataW H)} {ts : List TypeId} {s : ByteArray} {j : Nat} (h : (DataW.weightsEach Try.prog ts ds).all (fun x => decide (x ≤ reachBytes)) = true) (ht : ts[j]? = some 9) (hd : ds[j]? = some (.lit (.string s.data.toList))) :
    s.size ≤ 140737488351232 := by
  have := List.all_eq_true.1 h _ (DataW.weights_mem_each ht hd s.data.toList.length (by simp [DataW.weights]))
  have h2 := of_decide_eq_true this
  simp only [reachBytes] at h2
  have e : s.data.toList.length = s.size := by rw [Array.length_toList]; rfl
  omega
theorem cellsStr : Try.prog.cellsOf 9 = 1 := by kernel_rfl
end Go.Proofs.Ytfdigmlhjjdggaa
