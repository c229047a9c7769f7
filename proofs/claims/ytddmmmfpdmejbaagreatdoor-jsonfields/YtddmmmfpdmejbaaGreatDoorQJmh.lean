import Derived.Test.YtddmmmfpdmejbaaGreatDoorQJok
import Derived.Test.YtddmmmfpdmejbaaGreatDoorQJpt
import Derived.Test.YtddmmmfpdmejbaaGreatDoorQJfd
import Derived.Test.YtddmmmfpdmejbaaGreatDoorQJkr
namespace Go.Proofs.YtddmmmfpdmejbaaGreatDoor
open Go.RowKit

/-! What made and meant make: its size, its depth -/
theorem depL_md : ∀ (vs : List Nd) (m dep : Nat), (∀ d ∈ vs, depN (mdN d dep) ≤ m) → depL (mdL vs dep) ≤ m
  | [], m, dep, _ => by rw [mdL, depL]; exact Nat.zero_le _
  | d :: r, m, dep, h => by
    rw [mdL, depL]
    have h1 := h d (by simp)
    have h2 := depL_md r m dep (fun e he => h e (by simp [he]))
    omega
set_option linter.unusedSimpArgs false in
theorem mdN_dep : ∀ (d : Nd) (dep : Nat), dep ≤ 12 → depN (mdN d dep) ≤ 13 - dep := Nd.ind fun k n s ks vs ih => fun dep hd => by
  have hL : depL (if dep < 12 then mdL vs (dep + 1) else []) ≤ 12 - dep := by
    split
    · exact depL_md vs _ _ (fun d hm => by have := ih d hm (dep + 1) (by omega); omega)
    · rw [depL]; exact Nat.zero_le _
  rw [mdN_mk]
  generalize (if dep < 12 then mdL vs (dep + 1) else []) = L at hL ⊢
  unfold mdK
  have h0 : depL [] = 0 := rfl
  split
  · simp only [depN_mk, h0]; split <;> omega
  split
  · simp only [depN_mk, h0]; split <;> omega
  split
  · simp only [depN_mk, h0]; split <;> omega
  split
  · simp only [depN_mk]; split <;> omega
  split
  · simp only [depN_mk]; split <;> omega
  · simp only [depN_mk, h0]; split <;> omega
end Go.Proofs.YtddmmmfpdmejbaaGreatDoor
namespace Go.Proofs.YtddmmmfpdmejbaaGreatDoor
open Go.RowKit

/-! JsonFields -/
set_option linter.unusedSimpArgs false in
set_option maxRecDepth 100000 in
set_option maxHeartbeats 16000000 in
theorem lawJsonFields_any {V : World → Prop} (O : JsOk V) (d : Nd) (a : Rn) (w : World) (key : ByteArray) (hVw : V w) (ha : LnF w a d) :
    Calls Tryz.prog 4 #[.agg (rnA a), .string key] w fun e w' => e = .returned (.bool true) ∧ Below w.heap.size w w' := by
  obtain ⟨n0, hn0⟩ : ∃ q, w.heap.size = q := ⟨_, rfl⟩
  have HN0W : Hid (w.heap.size = n0) := hn0
  have HKV : Hid (∀ x, Below n0 w x → V x) := fun x hb => O.keep w x hVw (by rw [hn0]; exact hb)
  have bY := below_alloc w (.cells (rnA a) 25)
  have rY := RowC.new w (rnA a) 25
  have hLY := ha.kept bY
  obtain ⟨D, hD⟩ : ∃ q, mdN d 0 = q := ⟨_, rfl⟩
  have HDP : Hid (depN D ≤ 13) := by show _ ≤ _; have := mdN_dep d 0 (by omega); rw [hD] at this; omega
  have HMD : Hid (∀ x, LnF x a d → Calls Tryz.prog 8 #[.agg (rnA a), .int .i64 0] x fun e w' => ∃ v, e = .returned v ∧ VlS w' (x.heap.size ≤ ·) v D ∧ Below x.heap.size x w') := fun x hx => by
    have h9 := made15_any d 0 x a (by omega) hx
    rw [hD] at h9; exact h9
  have HMT : Hid (∀ x, LnF x a d → Calls Tryz.prog 15 #[.agg (rnA a), .int .i64 0] x fun e w' => ∃ r', e = .returned (.agg (rnA r')) ∧ NdF w' (x.heap.size ≤ ·) r' D ∧ Below x.heap.size x w') := fun x hx => by
    have h9 := meant15_any d 0 x a (by omega) hx
    rw [hD] at h9; exact h9
  rw [hn0] at rY bY
  clear ha hD
  go_enter Tryz.func4, Tryz.ntmps4
  go_upto_region 1 with fail
  generalize w.alloc (.cells (rnA a) 25) = Y at bY rY hLY ⊢
  obtain ⟨p1, p2⟩ := id rY
  have p3 : (rowAt Y n0).size = 5 := by rw [p2]; rfl
  have hC1 := HMD.out Y hLY
  go_wp2_with fail
  refine hC1.mono ?_
  rintro e w1 ⟨v, rfl, hS1, hb1⟩
  clear hC1 p1 p2 p3
  have hB1 : Below n0 w w1 := bY.trans (hb1.mono (by have := bY.size; omega))
  have r1 := rY.kept hb1
  have hL1 := hLY.kept hb1
  have hN0 : n0 ≤ Y.heap.size := by have := bY.size; omega
  have hP1 := O.fld D _ v key w1 hS1.g (Nat.le_trans HDP.out (by omega)) (HKV.out w1 hB1)
  obtain ⟨o, ho⟩ : ∃ q, fldN D (lS key) = q := ⟨_, rfl⟩
  rw [ho] at hP1
  clear bY rY hLY hb1
  go_wp2_with fail
  refine hP1.mono ?_
  rintro e w2 ⟨⟨vx, bx, rfl, hy, hn⟩, hb2⟩
  clear hP1
  have hB2 : Below n0 w w2 := hB1.trans (hb2.mono (by have := hB1.size; omega))
  have r2 := r1.kept hb2
  have hL2 := hL1.kept hb2
  clear r1 hL1 hS1 hb2 hB1
  go_upto_region 3 with fail
  obtain ⟨p1, p2⟩ := id r2
  have p3 : (rowAt w2 n0).size = 5 := by rw [p2]; rfl
  have hC2 := HMT.out w2 hL2
  go_wp2_with fail
  refine hC2.mono ?_
  rintro e w3 ⟨rm, rfl, hN3, hb3⟩
  clear hC2 p1 p2 p3
  have hR3 := refField_any D key w3 _ rm hN3
  rw [ho] at hR3
  have hB3 : Below n0 w w3 := hB2.trans (hb3.mono (by have := hB2.size; omega))
  have hy3 : ∀ dd, o = some dd → ∃ G, VlG w3 G vx dd := fun dd hdd => by obtain ⟨G, hG⟩ := (hy dd hdd).2; exact ⟨G, hG.kept hb3⟩
  clear hN3 r2 hL2
  go_wp2_with fail
  refine hR3.mono ?_
  rintro e w4 ⟨⟨rf, bf, rfl, fy, fn⟩, hb4⟩
  clear hR3
  have b5 := below_alloc w4 (.cells (rnA rf) 41)
  have hB4 : Below n0 w w4 := hB3.trans (hb4.mono (by have := hB3.size; omega))
  have hBX : Below n0 w (w4.alloc (.cells (rnA rf) 41)) := hB4.trans (b5.mono (by have := hB4.size; omega))
  have rX := RowC.new w4 (rnA rf) 41
  have hyX : ∀ dd, o = some dd → ∃ G, VlG (w4.alloc (.cells (rnA rf) 41)) G vx dd := fun dd hdd => by obtain ⟨G, hG⟩ := hy3 dd hdd; exact ⟨G, (hG.kept hb4).kept b5⟩
  have fyX := fun dd hdd => (fy dd hdd).2.kept b5
  clear hb3 hb4 b5 hB4 hB3 hB2 hy3
  obtain ⟨g8, hg8⟩ : ∃ q, w4.heap.size = q := ⟨_, rfl⟩
  cases o with
  | none =>
    obtain ⟨rfl, rfl⟩ := hn rfl
    obtain rfl := fn rfl
    clear hy hn fn fy hyX fyX
    go_upto_region 4 with fail
    generalize w4.alloc (.cells (rnA rf) 41) = X at hBX rX ⊢
    have hK := known15_any O X (HKV.out X hBX)
    go_wp2_with fail
    refine hK.mono ?_
    rintro e wb ⟨rfl, hbb⟩
    clear hK
    have hBb : Below n0 w wb := hBX.trans (hbb.mono (by have := hBX.size; omega))
    go_wp2
    go_ret
    exact ⟨rfl, by first | exact hBb | (rw [HN0W.out]; exact hBb)⟩
  | some dd =>
    obtain ⟨rfl, -⟩ := hy dd rfl
    obtain ⟨rfl, -⟩ := fy dd rfl
    obtain ⟨G9, hvX⟩ := hyX dd rfl
    have hfX := fyX dd rfl
    clear hy hn fn fy hyX fyX
    go_upto_region 4 with fail
    rw [hg8] at rX
    generalize w4.alloc (.cells (rnA rf) 41) = X at hBX rX hvX hfX ⊢
    by_cases hw9 : whlN dd = true
    · have hC5 := plain15_any dd X _ vx (hvX.f hw9)
      go_wp2_with fail
      refine hC5.mono ?_
      rintro e w5 ⟨m9, rfl, hN5, hb5⟩
      clear hC5
      have b6 := below_alloc w5 (.cells (rnA m9) 41)
      have hb6 := hb5.trans (b6.mono hb5.size)
      have rZ := rX.kept hb6
      have hfZ := hfX.kept hb6
      have hBZ : Below n0 w (w5.alloc (.cells (rnA m9) 41)) := hBX.trans (hb6.mono (by have := hBX.size; omega))
      have hNZ := hN5.kept b6
      have rM := RowC.new w5 (rnA m9) 41
      clear rX hfX hBX hb5 b6 hb6 hN5 hvX
      go_upto_region 9 with fail
      obtain ⟨g10, hg10⟩ : ∃ q, w5.heap.size = q := ⟨_, rfl⟩
      rw [hg10] at rM ⊢
      generalize w5.alloc (.cells (rnA m9) 41) = Z at rZ hfZ hBZ hNZ rM ⊢
      obtain ⟨p1, p2⟩ := id rM
      have p3 : (rowAt Z g10).size = 5 := by rw [p2]; rfl
      obtain ⟨p4, p5⟩ := id rZ
      have p6 : (rowAt Z g8).size = 5 := by rw [p5]; rfl
      have hC6 := same15_any dd Z _ _ m9 rf hNZ hfZ
      go_wp2_with fail
      refine hC6.mono ?_
      rintro e wa ⟨rfl, hba⟩
      clear hC6
      have hBa : Below n0 w wa := hBZ.trans (hba.mono (by have := hBZ.size; omega))
      have hK := known15_any O wa (HKV.out wa hBa)
      go_wp2_with fail
      refine hK.mono ?_
      rintro e wb ⟨rfl, hbb⟩
      clear hK
      have hBb : Below n0 w wb := hBa.trans (hbb.mono (by have := hBa.size; omega))
      go_wp2
      go_ret
      exact ⟨rfl, by first | exact hBb | (rw [HN0W.out]; exact hBb)⟩
    · have hC5 := plainNo15_any dd X _ vx hvX (by simpa using hw9)
      go_wp2_with fail
      refine hC5.mono ?_
      rintro e w5 ⟨rfl, hb5⟩
      clear hC5
      have b6 := below_alloc w5 (.cells (rnA rnZ) 41)
      have hb6 := hb5.trans (b6.mono hb5.size)
      have rZ := rX.kept hb6
      have hfZ := hfX.kept hb6
      have hBZ : Below n0 w (w5.alloc (.cells (rnA rnZ) 41)) := hBX.trans (hb6.mono (by have := hBX.size; omega))
      clear rX hfX hBX hb5 b6 hb6 hvX
      go_upto_region 9 with fail
      generalize w5.alloc (.cells (rnA rnZ) 41) = Z at rZ hfZ hBZ ⊢
      obtain ⟨p4, p5⟩ := id rZ
      have p6 : (rowAt Z g8).size = 5 := by rw [p5]; rfl
      have hC6 := whole15_any dd Z _ rf hfZ
      rw [show whlN dd = false by simpa using hw9] at hC6
      go_wp2_with fail
      refine hC6.mono ?_
      rintro e wa ⟨rfl, hba⟩
      clear hC6
      have hBa : Below n0 w wa := hBZ.trans (hba.mono (by have := hBZ.size; omega))
      have hK := known15_any O wa (HKV.out wa hBa)
      go_wp2_with fail
      refine hK.mono ?_
      rintro e wb ⟨rfl, hbb⟩
      clear hK
      have hBb : Below n0 w wb := hBa.trans (hbb.mono (by have := hBa.size; omega))
      go_wp2
      go_ret
      exact ⟨rfl, by first | exact hBb | (rw [HN0W.out]; exact hBb)⟩
end Go.Proofs.YtddmmmfpdmejbaaGreatDoor
