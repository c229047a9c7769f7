
import Derived.Test.YthkjfgncbmpllaaLawDigSays
import Derived.Test.YthkjfgncbmpllaaDgB
import Derived.Test.YthkjfgncbmpllaaDsO
namespace Go.Proofs.Ythkjfgncbmpllaa
open Go.RowKit

/-- What digest.Sorted owes. -/
def SortedOk : Prop := ∀ (x : Option Addr) (c : Nat) (ds : List Dg) (w : World), IsDs w (.slice x ds.length c) ds → ds.length * 32 + 64 ≤ 140737488355328 →
  Calls Try.prog 11 #[.slice x ds.length c] w fun e w' => ∃ v rs, e = .returned v ∧ OwnDs w' w.heap.size v rs ∧ SortedTo ds rs ∧ Below w.heap.size w w'
def zeroL : List UInt8 := frontS ++ List.replicate 64 48
def goodL : List UInt8 := frontS ++ [48, 97, 102, 102] ++ List.replicate 60 48
def badL : List UInt8 := frontS ++ [48, 65, 70, 70] ++ List.replicate 60 48
theorem good_is : PGood goodL ∧ ∀ i, i < 32 → pval goodL i = dgOf [(0, 10), (1, 255)] dg_secZ i := by
  refine ⟨⟨by decide +kernel, by decide +kernel, ?_⟩, by decide +kernel⟩
  unfold PUp
  decide +kernel
theorem bad_is : ¬ PGood badL := fun h => by
  have h1 := (h.2.2 0 (by omega)).2
  have h2 : ¬ 0 ≤ loV badL 0 := by decide +kernel
  exact h2 h1
theorem zero_is : textL dg_secZ = zeroL := by decide +kernel
end Go.Proofs.Ythkjfgncbmpllaa
