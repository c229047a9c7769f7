
import Derived.Test.YtajmlfcbppnpgaaShaH
import Derived.Lib.SmallJoins
namespace Go.Proofs.Ytajmlfcbppnpgaa
open Go.RowKit

set_option maxHeartbeats 800000 in
theorem shaTaken {HIs : World → Value → List UInt8 → List Nat → Prop} (hH : HashOk HIs) (hN : NilOk) (hSum : ShaOk) : TakenOk := by
  intro w
  have hc1 := Joins.run_convert_bytes_const_at (P := Try.prog) w 22 5 #[.int .u8 97, .int .u8 98, .int .u8 99] 3 3 w.heap.size rfl (by kernel_rfl) (by kernel_rfl)
  simp only [List.size_toArray, List.length_cons, List.length_nil, Nat.reduceAdd] at hc1
  have hi : IsB (w.alloc (.cells #[.int .u8 97, .int .u8 98, .int .u8 99] 5 (3, 4))) (.slice (some ⟨w.heap.size, 0, none⟩) 3 3) [97, 98, 99] := by
    refine .inr ⟨_, _, rfl, fun j hj => ?_⟩
    rw [addr_add, Nat.zero_add, World.cell?_alloc_mark]
    have hj2 : j < 3 := by simpa using hj
    rcases (by omega : j = 0 ∨ j = 1 ∨ j = 2) with rfl | rfl | rfl <;> rfl
  have hS := hSum _ [97, 98, 99] _ (by simp) hi (.mk (Nat.le_refl _))
  have e0 : (shaL [97, 98, 99] 0).toNat = 186 := by rw [sha_abc0]; rfl
  have e31 : (shaL [97, 98, 99] 31).toNat = 173 := by rw [sha_abc31]; rfl
  generalize shaL [97, 98, 99] = D at hS e0 e31
  have hB0 : Below w.heap.size w (w.alloc (.cells #[.int .u8 97, .int .u8 98, .int .u8 99] 5 (3, 4))) := below_alloc _ _
  clear hi
  have HS := hS
  clear hS
  go_enter Try.func6, Try.ntmps6
  go_wp2_with fail
  refine HS.mono ?_
  rintro e w1 ⟨rfl, hw1⟩
  clear HS hc1
  have hB1 : Below w.heap.size w w1 := hB0.trans (hw1.mono hB0.size)
  have hR1 : DRow (w1.alloc (.cells (dg_secA D) 29)) w1.heap.size D := DRow.new w1 D _
  have hB2 : Below w.heap.size w (w1.alloc (.cells (dg_secA D) 29)) := hB1.alloc hB1.size _
  clear hB0 hw1
  go_wp2_with fail
  refine (hH.new _).mono ?_
  rintro e w2 ⟨h, F, rfl, ⟨a, rfl⟩, -, -, hw2⟩
  have hR2 := hR1.kept hw2
  have hB3 : Below w.heap.size w w2 := hB2.trans (hw2.mono hB2.size)
  have hc2 := Joins.run_convert_bytes_const_at (P := Try.prog) w2 22 5 #[.int .u8 120] 1 1 w2.heap.size rfl (by kernel_rfl) (by kernel_rfl)
  simp only [List.size_toArray, List.length_cons, List.length_nil, Nat.reduceAdd] at hc2
  clear hR1 hB2 hw2 hB1
  generalize w1.heap.size = gd at hR2 ⊢
  go_wp2_with fail
  refine (hN.write _ _).mono ?_
  rintro e w3 ⟨rfl, hw3⟩
  clear hc2
  have hR3 := (hR2.kept (below_alloc w2 (.cells #[.int .u8 120] 5 (1, 2)))).kept hw3
  have hB4 : Below w.heap.size w w3 := by
    have h1 := hB3.alloc hB3.size (.cells #[.int .u8 120] 5 (1, 2))
    exact h1.trans (hw3.mono h1.size)
  have c0 := hR3.cell 0 (by omega)
  have c31 := hR3.cell 31 (by omega)
  rw [e0] at c0
  rw [e31] at c31
  clear hR2 hB3 hw3
  go_wp2_with fail
  refine (hN.len _).mono ?_
  rintro e w4 ⟨rfl, hw4⟩
  go_wp2_with fail
  refine (hN.sum _).mono ?_
  rintro e w5 ⟨rfl, hw5⟩
  go_wp2_with fail
  refine (hN.copy _).mono ?_
  rintro e w6 ⟨rfl, hw6⟩
  go_wp2
  go_ret
  have hB5 := hB4.trans (hw4.mono hB4.size)
  have hB6 := hB5.trans (hw5.mono hB5.size)
  exact ⟨rfl, hB6.trans (hw6.mono hB6.size)⟩
end Go.Proofs.Ytajmlfcbppnpgaa
