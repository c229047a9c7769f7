import Derived.Test.YtddmmmfpdmejbaaGreatDoorQJok
namespace Go.Proofs.YtddmmmfpdmejbaaGreatDoor
open Go.RowKit

/-! assaylaw15.known, read -/
theorem below_mark15 (w : World) (C : Array Value) (t : TypeId) (m : Nat × Nat) : Below w.heap.size w (w.alloc (.cells C t m)) := below_alloc w _
theorem isB_mark15 (w : World) (l : List UInt8) (n : Nat) (m : Nat × Nat) (hn : l.length = n) : IsB (w.alloc (.cells (bytesA l) 5 m)) (.slice (some ⟨w.heap.size, 0, none⟩) n n) l := by
  subst hn
  refine .inr ⟨⟨w.heap.size, 0, none⟩, l.length, rfl, fun i hi => ?_⟩
  rw [addr_add, Nat.zero_add, World.cell?_alloc_mark, bytesA_get l i hi]
set_option linter.unusedSimpArgs false in
set_option maxRecDepth 100000 in
set_option maxHeartbeats 8000000 in
theorem known15_any {V : World → Prop} (O : JsOk V) (w : World) (hV : V w) : Calls Tryz.prog 10 #[] w fun e w' => e = .returned (.bool true) ∧ Below w.heap.size w w' := by
  have hc1 := Joins.run_convert_bytes_const_at (P := Tryz.prog) w 26 5 #[.int .u8 123, .int .u8 34, .int .u8 97, .int .u8 34, .int .u8 58, .int .u8 91, .int .u8 49, .int .u8 44, .int .u8 110, .int .u8 117, .int .u8 108, .int .u8 108, .int .u8 93, .int .u8 44, .int .u8 34, .int .u8 98, .int .u8 34, .int .u8 58, .int .u8 123, .int .u8 125, .int .u8 125] 21 21 w.heap.size rfl (by kernel_rfl) (by kernel_rfl)
  simp only [List.size_toArray, List.length_cons, List.length_nil, Nat.reduceAdd] at hc1
  have b1 := below_mark15 w #[.int .u8 123, .int .u8 34, .int .u8 97, .int .u8 34, .int .u8 58, .int .u8 91, .int .u8 49, .int .u8 44, .int .u8 110, .int .u8 117, .int .u8 108, .int .u8 108, .int .u8 93, .int .u8 44, .int .u8 34, .int .u8 98, .int .u8 34, .int .u8 58, .int .u8 123, .int .u8 125, .int .u8 125] 5 (21, 22)
  have i1 : IsB (w.alloc (.cells #[.int .u8 123, .int .u8 34, .int .u8 97, .int .u8 34, .int .u8 58, .int .u8 91, .int .u8 49, .int .u8 44, .int .u8 110, .int .u8 117, .int .u8 108, .int .u8 108, .int .u8 93, .int .u8 44, .int .u8 34, .int .u8 98, .int .u8 34, .int .u8 58, .int .u8 123, .int .u8 125, .int .u8 125] 5 (21, 22))) (.slice (some ⟨w.heap.size, 0, none⟩) 21 21) kn21 := isB_mark15 w kn21 21 (21, 22) rfl
  generalize w.alloc (.cells #[.int .u8 123, .int .u8 34, .int .u8 97, .int .u8 34, .int .u8 58, .int .u8 91, .int .u8 49, .int .u8 44, .int .u8 110, .int .u8 117, .int .u8 108, .int .u8 108, .int .u8 93, .int .u8 44, .int .u8 34, .int .u8 98, .int .u8 34, .int .u8 58, .int .u8 123, .int .u8 125, .int .u8 125] 5 (21, 22)) = W1 at hc1 b1 i1
  have k1 := O.prs kn21 (some ⟨w.heap.size, 0, none⟩) 21 21 W1 rfl (by omega) (by omega) i1 (O.keep _ _ hV b1)
  rw [kn15_P] at k1
  clear i1
  go_enter Tryz.func10, Tryz.ntmps10
  go_wp2_with fail
  refine k1.mono ?_
  rintro e w1 ⟨v, rfl, hv, -, hb⟩
  have hB1 := b1.trans (hb.mono b1.size)
  replace hv := hv rfl
  clear k1 hc1 b1 hb
  have k2 := O.prt knD _ v w1 hv.g kn15_z kn15_dp (O.keep _ _ hV hB1)
  unfold PtP at k2
  rw [kn15_S, kn15_E] at k2
  go_wp2_with fail
  refine k2.mono ?_
  rintro e w2 ⟨rfl, hb⟩
  have hB2 := hB1.trans (hb.mono hB1.size)
  have hv2 := hv.kept hb
  clear k2 hb hv hB1
  have hc2 := Joins.run_convert_bytes_const_at (P := Tryz.prog) w2 26 5 #[.int .u8 91, .int .u8 49, .int .u8 44, .int .u8 93] 4 4 w2.heap.size rfl (by kernel_rfl) (by kernel_rfl)
  simp only [List.size_toArray, List.length_cons, List.length_nil, Nat.reduceAdd] at hc2
  have b2 := below_mark15 w2 #[.int .u8 91, .int .u8 49, .int .u8 44, .int .u8 93] 5 (4, 5)
  have i2 : IsB (w2.alloc (.cells #[.int .u8 91, .int .u8 49, .int .u8 44, .int .u8 93] 5 (4, 5))) (.slice (some ⟨w2.heap.size, 0, none⟩) 4 4) [91, 49, 44, 93] := isB_mark15 w2 [91, 49, 44, 93] 4 (4, 5) rfl
  generalize w2.alloc (.cells #[.int .u8 91, .int .u8 49, .int .u8 44, .int .u8 93] 5 (4, 5)) = W2 at hc2 b2 i2
  have k3 := O.prs [91, 49, 44, 93] (some ⟨w2.heap.size, 0, none⟩) 4 4 W2 rfl (by omega) (by omega) i2 (O.keep _ _ hV (hB2.trans (b2.mono hB2.size)))
  unfold JpP at k3
  rw [kn15_B] at k3
  clear i2
  go_wp2_with fail
  refine k3.mono ?_
  rintro e w3 ⟨v3, rfl, -, -, hb⟩
  have hB3 := (hB2.trans (b2.mono hB2.size)).trans (hb.mono (Nat.le_trans hB2.size b2.size))
  have hv3 := (hv2.kept b2).kept hb
  clear k3 hb hv2 hB2 hc2 b2
  have k4 := O.fld knD _ v ⟨#[98]⟩ w3 hv3.g kn15_dp (O.keep _ _ hV hB3)
  rw [show lS ⟨#[98]⟩ = [98] from rfl, kn15_F] at k4
  go_wp2_with fail
  refine k4.mono ?_
  rintro e w4 ⟨⟨v4, b4, rfl, hs, -⟩, hb⟩
  obtain ⟨rfl, G4, hv4⟩ := hs _ rfl
  have hB4 := hB3.trans (hb.mono hB3.size)
  clear k4 hb hv3 hs hB3
  have k5 := O.prt _ _ v4 w4 hv4 (by rw [szN_mk]; decide +kernel) (by rw [depN_mk]; decide +kernel) (O.keep _ _ hV hB4)
  unfold PtP at k5
  rw [kn15_S2, kn15_E2] at k5
  go_wp2_with fail
  refine k5.mono ?_
  rintro e w5 ⟨rfl, hb⟩
  have hB5 := hB4.trans (hb.mono hB4.size)
  clear k5 hb hv4 hB4
  simp only [kn21]
  go_wp2
  go_ret
  exact ⟨rfl, hB5⟩
end Go.Proofs.YtddmmmfpdmejbaaGreatDoor
