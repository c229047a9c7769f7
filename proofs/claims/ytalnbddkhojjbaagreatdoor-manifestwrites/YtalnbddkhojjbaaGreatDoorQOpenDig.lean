import Derived.Test.YtalnbddkhojjbaaGreatDoorQNum
import Derived.Test.YtalnbddkhojjbaaGreatDoorQDig2
import Derived.Test.YtalnbddkhojjbaaGreatDoorRows
import Derived.SizedLaws
import Derived.JoinedCond
namespace Go.Proofs.YtalnbddkhojjbaaGreatDoor
open Go.ChangeShapes Go.WideShapes Go.ChangeAt Go.RowKit

/-! Opening a digest, a string, a slice of digests; what a bound gives -/
theorem cellsDg : Tryz.prog.cellsOf 33 = 32 := by kernel_rfl
set_option maxRecDepth 100000 in
theorem dg_of_trod {H : Type} {enc : TypeId × Value → H} {w : World} {base : Nat} {spare : Nat → Bool} {held : Bool} {fuel : Nat} {cs : List Value} {x : DataW H × List MemPlace}
    (h : DataW.trod enc Tryz.prog w base spare held fuel 33 cs = some x) : ∃ s, cs = (dg_secA s).toList := by
  obtain ⟨xs, m, _, _, hl, hn, hx⟩ := DataW.trod_array Tryz.underlying33 h
  rw [cellsDg] at hl
  obtain ⟨s, hs⟩ := dg_secA_of cs.toArray (by simpa using hl) (fun i hi => by
    have h1 := hx i hi
    rw [cells5, Nat.mul_one, List.getElem?_eq_getElem (by omega)] at h1
    obtain ⟨n, hc, _, hw⟩ := DataW.trod_int Tryz.underlying5 h1
    refine ⟨n, ?_, u8_bounds hw⟩
    have h2 : ((cs.drop i).take 1)[0]? = some (Value.int .u8 n) := by rw [hc]; rfl
    rw [List.getElem?_take, if_pos (by omega), List.getElem?_drop] at h2
    simpa using h2)
  exact ⟨s, by rw [← hs]⟩
end Go.Proofs.YtalnbddkhojjbaaGreatDoor
