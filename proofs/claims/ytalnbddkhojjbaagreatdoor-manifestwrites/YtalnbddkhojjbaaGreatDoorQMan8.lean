import Derived.Test.YtalnbddkhojjbaaGreatDoorQMan7
import Derived.Test.YtalnbddkhojjbaaGreatDoorQGal
import Derived.Test.YtalnbddkhojjbaaGreatDoorQManB
namespace Go.Proofs.YtalnbddkhojjbaaGreatDoor
open Go.RowKit

/-! assaylaw16's apart -/
end Go.Proofs.YtalnbddkhojjbaaGreatDoor
namespace Go.Proofs.YtalnbddkhojjbaaGreatDoor
open Go.RowKit

/-! ManifestBack -/
/-- append([]api.Desc{}, l...) -/
theorem copy_dc16 (w : World) (x : Option Addr) (n c : Nat) (l : List Dc) (hn : l.length = n) (h : IsK dcE w (.slice x n c) l) (hl : n ≤ 3518437208883) :
    ∃ v c' w', (Builtin.append_ #[22, 22] 22 #[.slice (some ⟨w.heap.size, 0, none⟩) 0 0, .slice x n c]).run Tryz.prog (w.alloc (.cells #[] 35)) = .ok (.slice v n c') w' ∧ OwnK dcE w' w.heap.size (.slice v n c') l ∧ Below w.heap.size w w' := by
  have bA := below_alloc w (.cells #[] 35)
  obtain ⟨v, c', w', hr, hO, hB⟩ := run_appAll16 dcE_ok (w.alloc (.cells #[] 35)) w.heap.size (some ⟨w.heap.size, 0, none⟩) 0 0 [] l x n c n 22 (OwnK.lit0 dcE w) (h.kept bA) rfl hn (by omega) (by show n * 40 ≤ _; omega) (by unfold maxLen; omega) bA.size
  exact ⟨v, c', w', hr, by simpa using hO, bA.trans hB⟩
end Go.Proofs.YtalnbddkhojjbaaGreatDoor
