
import Derived.Test.YtfnffkommcepoaaBit5
namespace Go.Proofs.Ytfnffkommcepoaa
open Go.RowKit

/-! assaylaw07's known -/
theorem OwnG.len {e : TypeId} {w : World} {B : Nat} {v : Value} {xs : List Value} (h : OwnG e w B v xs) : ∃ x c, v = .slice x xs.length c := h.isG.len
theorem intsElt : Elt 30 3 8 := ⟨Try.underlying30, by
  have h : (Try.prog.info? 3).map (fun i => (i.zero, i.size, i.bytes)) = some (some (.int .i64 0), 1, 8) := by kernel_rfl
  obtain ⟨i, hi, hz⟩ := Option.map_eq_some_iff.1 h
  simp only [Prod.mk.injEq] at hz
  exact ⟨i, _, hi, hz.1, hz.2.1, hz.2.2, rfl⟩⟩
theorem boolsElt7 : Elt 22 4 1 := ⟨Try.underlying22, by
  obtain ⟨i, hi, hz⟩ := Option.map_eq_some_iff.1 info_bool
  simp only [Prod.mk.injEq] at hz
  exact ⟨i, _, hi, hz.1, hz.2.1, hz.2.2, rfl⟩⟩
theorem setCell_below {w : World} {B : Nat} {w0 : World} (h : Below B w0 w) (g i : Nat) (v : Value) (hg : B ≤ g) : Below B w0 (w.setCell ⟨g, i, none⟩ v) := h.setCell (p := ⟨g, i, none⟩) hg v
set_option maxRecDepth 100000 in
set_option maxHeartbeats 800000 in
theorem known7_any (hP : PutOk) (hG : GetOk) (w : World) : Calls Try.prog 8 #[] w fun e w' => e = .returned (.bool true) ∧ Below w.heap.size w w' := by
  have hb0 := ownB_new w 64 (by decide)
  have hB0 : Below w.heap.size w (w.alloc (.cells (rowF 64) 4)) := below_alloc _ _
  go_enter Try.func8, Try.ntmps8
  go_upto_region 2 with fail
  obtain ⟨g, hg⟩ : ∃ g, w.heap.size = g := ⟨_, rfl⟩
  have hgw : w.heap.size ≤ g := by omega
  simp only [hg]
  have hb1 : OwnG 4 (w.alloc (.cells (rowF 64) 4)) w.heap.size (.slice (some ⟨g, 0, none⟩) 64 64) (bV (List.replicate 64 false)) := by rw [← hg]; exact hb0
  clear hb0 hg
  generalize w.alloc (.cells (rowF 64) 4) = X at hb1 hB0 ⊢
  have c0 := hb1.cell 0 _ (bV_get _ 0 (by simp))
  have f0 := hb1.frozen 0
  obtain ⟨hb2, -⟩ := hb1.put 0 (.bool true)
  rw [bV_set] at hb2
  have hB1 := setCell_below hB0 g 0 (.bool true) hgw
  clear hb1 hB0
  have H2 : Hid _ := hb2
  have HB : Hid _ := hB1
  clear hb2 hB1
  go_upto_region 3 with fail
  clear c0 f0
  have hb1 := H2.out
  have hB0 := HB.out
  clear H2 HB
  generalize X.setCell ⟨g, 0, none⟩ (.bool true) = X1 at hb1 hB0 ⊢
  have c0 := OwnG.cell hb1 9 _ (bV_get _ 9 (by simp))
  have f0 := OwnG.frozen hb1 9
  obtain ⟨hb2, -⟩ := OwnG.put hb1 9 (.bool true)
  rw [bV_set] at hb2
  have hB1 := setCell_below hB0 g 9 (.bool true) hgw
  clear hb1 hB0
  have H2 : Hid _ := hb2
  have HB : Hid _ := hB1
  clear hb2 hB1
  go_upto_region 4 with fail
  clear c0 f0
  have hb1 := H2.out
  have hB0 := HB.out
  clear H2 HB
  generalize X1.setCell ⟨g, 9, none⟩ (.bool true) = X2 at hb1 hB0 ⊢
  have c0 := OwnG.cell hb1 63 _ (bV_get _ 63 (by simp))
  have f0 := OwnG.frozen hb1 63
  obtain ⟨hb2, -⟩ := OwnG.put hb1 63 (.bool true)
  rw [bV_set] at hb2
  have hB1 := setCell_below hB0 g 63 (.bool true) hgw
  clear hb1 hB0
  have H2 : Hid _ := hb2
  have HB : Hid _ := hB1
  clear hb2 hB1
  go_upto_region 5 with fail
  clear c0 f0
  have hbk : OwnG 4 (X2.setCell ⟨g, 63, none⟩ (.bool true)) w.heap.size (.slice (some ⟨g, 0, none⟩) 64 64) (bV kb) := H2.out
  have hB0 : Below w.heap.size w (X2.setCell ⟨g, 63, none⟩ (.bool true)) := HB.out
  clear H2 HB
  generalize X2.setCell ⟨g, 63, none⟩ (.bool true) = X3 at hbk hB0 ⊢
  have hput := hP kb (some ⟨g, 0, none⟩) 64 64 X3 kb_len (by omega) (by decide) (by omega) hbk.isG
  rw [many64, put_kb] at hput
  go_wp2_with fail
  go_at_call 7
  refine hput.mono ?_
  rintro e w1 ⟨y, c', rfl, hO, hB1⟩
  clear hput
  replace hbk := hbk.keep hB1
  replace hB0 := hB0.trans (hB1.mono hB0.size)
  obtain ⟨gl, rfl, hgl⟩ := hO.form (by simp)
  have d0 := hO.cellAt 0 _ rfl 0 (by omega)
  have d1 := hO.cellAt 0 _ rfl 1 (by omega)
  have d7 := hO.cellAt 0 _ rfl 7 (by omega)
  rw [kb0] at d0
  rw [kb1] at d1
  rw [kb7] at d7
  simp only [Nat.zero_mul, Nat.zero_add] at d0 d1 d7
  have HO : Hid _ := hO
  have HK : Hid _ := hbk
  have HB : Hid _ := hB0
  clear hO hbk hB0 hB1 hgl
  go_upto_region 8 with fail
  clear d0 d1 d7
  have hO := HO.out
  have hget := hG [putS kb 0] (some ⟨gl, 0, none⟩) 1 c' 64 w1 rfl (by omega) (by omega) (by omega) (OwnK.isK secE_ok hO)
  have hgp := get_put kb (by rw [kb_len]; decide)
  rw [kb_len, put_kb] at hgp
  have e64 : (64 : Int).toNat = 64 := rfl
  rw [e64, hgp.1, hgp.2] at hget
  clear hgp
  go_wp2_with fail
  go_at_call 9
  refine hget.mono ?_
  rintro e w2 ⟨u, v, rfl, hu, hv, -, hB2⟩
  clear hget hO HO
  have hbk := OwnG.keep HK.out hB2
  have hB0 := HB.out.trans (hB2.mono (Below.size HB.out))
  clear HK HB hB2
  obtain ⟨xu, cu, rfl⟩ := OwnG.len hu
  obtain ⟨xv, cv, rfl⟩ := OwnG.len hv
  have HU : Hid _ := hu
  have HK : Hid _ := hbk
  have HB : Hid _ := hB0
  clear hu hv hbk hB0
  rw [bV_len, kb_len] at HU ⊢
  simp only [nI, iV, List.map_nil, List.length_nil]
  have hz := ownS_new w2 1 (by decide)
  have hget := hG [secZ] (some ⟨w2.heap.size, 0, none⟩) 1 1 64 (w2.alloc (.cells (rowZ 1) 29)) rfl (by omega) (by omega) (by omega) (OwnK.isK secE_ok hz)
  rw [e64, bad_zero] at hget
  clear hz
  go_wp2_with fail
  go_at_call 9
  refine hget.mono ?_
  rintro e w3 ⟨u2, v2, rfl, -, hv2, -, hB2⟩
  clear hget
  have hB3 : Below w2.heap.size w2 w3 := (below_alloc w2 _).trans (hB2.mono (by simp))
  have hu := OwnG.keep HU.out hB3
  have hbk := OwnG.keep HK.out hB3
  have hB0 := HB.out.trans (hB3.mono (Below.size HB.out))
  clear HU HK HB hB2 hB3
  obtain ⟨xv2, cv2, rfl⟩ := OwnG.len hv2
  have hsb := sameB_any xu (some ⟨g, 0, none⟩) cu 64 64 64 kb kb w3 kb_len kb_len hu.isG hbk.isG (by omega)
  simp only [decide_true] at hsb
  have HB : Hid _ := hB0
  have HV : Hid _ := hv2
  clear hu hbk hB0 hv2
  simp only [iV_len, nI_len, List.length_cons, List.length_nil, Nat.zero_add]
  go_wp2_with fail
  go_at_call 13
  refine hsb.mono ?_
  rintro e w4 ⟨rfl, hB4⟩
  clear hsb
  have hv2 := OwnG.keep HV.out hB4
  have hB0 := HB.out.trans (hB4.mono (Below.size HB.out))
  clear HV HB hB4
  have hlit := OwnG.lit 3 w4 (iV [0]) (by decide)
  have hsi := sameI_any xv2 (some ⟨w4.heap.size, 0, none⟩) cv2 1 1 1 (nI [0]) [0] (w4.alloc (.cells (iV [0]).toArray 3)) rfl rfl (OwnG.keep hv2 (below_alloc _ _)).isG hlit.isG (by omega)
  have HB : Hid (Below w.heap.size w (w4.alloc (.cells (iV [0]).toArray 3))) := hB0.alloc hB0.size _
  have e9 : (iV [0]).toArray = #[Value.int .i64 0] := rfl
  have e8 : decide (nI [0] = [0]) = true := by decide
  rw [e9] at hsi HB
  rw [e8] at hsi
  clear hv2 hB0 hlit
  go_wp2_with fail
  go_at_call 10
  refine hsi.mono ?_
  rintro e w5 ⟨rfl, hB5⟩
  have HB' := HB.out.trans (hB5.mono (Below.size HB.out))
  clear HB hB5 hsi
  go_wp2
  go_ret
  exact ⟨rfl, HB'⟩
end Go.Proofs.Ytfnffkommcepoaa
