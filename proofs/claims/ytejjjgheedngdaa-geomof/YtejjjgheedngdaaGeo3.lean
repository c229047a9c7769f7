
import Derived.Test.YtejjjgheedngdaaGeo2
import Derived.Test.YtejjjgheedngdaaGeoT
namespace Go.Proofs.Ytejjjgheedngdaa
open Go.RowKit

set_option maxHeartbeats 400000 in
theorem gtaken_any (w : World) : Calls Try.prog 5 #[] w fun r w' => r = .returned (.bool true) ∧ Below w.heap.size w w' := by
  have e0 : geoF 64 0 = 64 := by decide
  have e11 : geoF 64 11 = 29 := by decide
  generalize hF : geoF 64 = f at e0 e11
  have hO := fun w => of_yes 64 w (by omega) (by omega)
  rw [hF] at hO
  clear hF
  have t1 : tgtB (f 0) 11 = true := by rw [e0]; decide
  have t2 : tgtB (f 0) 10 = false := by rw [e0]; decide
  have t3 : tgtB 0 0 = false := by decide
  clear e0
  go_enter Try.func5, Try.ntmps5
  go_wp2_with (first
    | (go_at_call 6; refine (hO _).mono ?_; rintro e w1 ⟨rfl, hb⟩)
    | (go_at_call 9; refine (ghead_any _ _).mono ?_; rintro e w2 ⟨rfl, rfl⟩)
    | (go_at_call 7; refine (gtarget_any _ _ _ (by omega) (by omega)).mono ?_; rintro e w3 ⟨rfl, rfl⟩))
  go_ret
  refine ⟨rfl, ?_⟩
  exact (((((((hb.alloc (by have := hb.size; simp; omega) _).alloc (by have := hb.size; simp; omega) _).alloc (by have := hb.size; simp; omega) _).alloc (by have := hb.size; simp; omega) _).alloc (by have := hb.size; simp; omega) _).alloc (by have := hb.size; simp; omega) _).alloc (by have := hb.size; simp; omega) _)
end Go.Proofs.Ytejjjgheedngdaa
