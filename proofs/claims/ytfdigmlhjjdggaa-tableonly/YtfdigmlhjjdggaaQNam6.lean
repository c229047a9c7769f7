import Derived.Test.YtfdigmlhjjdggaaQNam5
namespace Go.Proofs.Ytfdigmlhjjdggaa
open Go.RowKit

/-! NameOrder -/
theorem str_eq13 {s t : ByteArray} : lS s = lS t ↔ s = t := ⟨lS_inj, fun h => by rw [h]⟩
theorem toList13 (s : ByteArray) : s.toList = lS s := by unfold lS; rw [ByteArray.toList_eq]
theorem str_ne13 {s t : ByteArray} (h : ¬ s = t) : (s.toList == t.toList) = false := beq_eq_false_iff_ne.2 fun e => h (lS_inj (by rw [← toList13, ← toList13]; exact e))
theorem str_some13 {t : ByteArray} (h : t ≠ ⟨#[]⟩) : t.toList.isEmpty = false := by
  rw [toList13]
  cases e : lS t with
  | nil => exact absurd (lS_inj (e.trans rfl)) h
  | cons a l => rfl
theorem str_nil13 {t : ByteArray} (h : lS t = []) : t = ⟨#[]⟩ := lS_inj (h.trans rfl)
end Go.Proofs.Ytfdigmlhjjdggaa
