import Derived.Test.YtiokdcffpnjkcaaDoorQLex9
import Derived.Lib.ConvBytes
import Derived.Laws.AppendOwn
namespace Go.Proofs.YtiokdcffpnjkcaaDoor
open Go.RowKit

/-! []byte of a string -/
theorem conv14 (w : World) (s : ByteArray) : ∃ C W, (convert 9 29 (.string s)).run Tryd.prog w = .ok (.slice (some ⟨w.heap.size, 0, none⟩) s.size C) W ∧ s.size ≤ C ∧ Below w.heap.size w W ∧ IsB W (.slice (some ⟨w.heap.size, 0, none⟩) s.size C) (lS s) := by
  refine ⟨_, _, Lib.run_convert_string_bytes w 9 29 5 s Tryd.underlying9 Tryd.underlying29 Tryd.underlying5, grownCap_ge _ _ _ _, ⟨rfl, rfl, rfl, ?_, fun k hk => Lib.bytesWorld_at_old w _ s k hk⟩, ?_⟩
  · rw [Lib.bytesWorld_size]; omega
  · refine .inr ⟨⟨w.heap.size, 0, none⟩, _, by rw [lS_len], fun i hi => ?_⟩
    rw [lS_len] at hi
    rw [addr_add, Nat.zero_add, Lib.bytesWorld_cell w _ s i hi]
    have h2 : i < s.data.toList.length := by rw [Array.length_toList]; exact hi
    rw [List.getD_eq_getElem?_getD, List.getElem?_eq_getElem h2]; rfl
end Go.Proofs.YtiokdcffpnjkcaaDoor
