import Derived.Test.YtklbdhpnbjhgkaaGreatDoorQFiH
namespace Go.Proofs.YtklbdhpnbjhgkaaGreatDoor
open Go.RowKit Go.Sort

/-! assaylaw22's taken -/
theorem isK_nil22 {α : Type} (E : EK α) (w : World) : IsK E w (.slice none 0 0) [] := ⟨none, 0, rfl, Nat.le_refl _, fun i d h => by simp at h⟩
theorem isG_nil22 (w : World) : IsG w (.slice none 0 0) [] := .inl ⟨rfl, rfl⟩
theorem rpI_nil (w : World) (s : Int) : RpI w ⟨s, [], [], []⟩ none 0 0 none 0 0 none 0 0 := ⟨isK_nil22 _ _, isK_nil22 _ _, isG_nil22 _, rfl, rfl, rfl⟩
theorem put_len1 : (putM ⟨1, [], [], []⟩).length = 14 := by
  have h : checkM ⟨1, [], [], []⟩ = 0 := by decide
  unfold putM
  rw [if_pos h]
  rfl
theorem check1 : checkM ⟨1, [], [], []⟩ = 0 := by decide
theorem check3 : checkM ⟨3, [], [], []⟩ = 1 := by decide
def badB : List UInt8 := [65, 82, 1, 7, 0, 0, 0, 0, 0, 0]
theorem get_bad : getM badB = .error (3, 1) := by
  have h : rdH badB = .error (3, 1) := by
    unfold rdH badB headB okSt
    simp [lB]
  unfold getM rdR
  rw [h]
theorem sort_known : sortM [(2, 1), (1, 0), (2, 1)] = [(1, 0), (2, 1)] := by decide
theorem cat_known : ((⟨#[102, 105, 110, 100, 105, 110, 103, 58, 32, 97, 116, 32, 51, 58, 32]⟩ : ByteArray) ++ ⟨#[101, 114, 114, 111, 114, 32, 49]⟩).toList = [102, 105, 110, 100, 105, 110, 103, 58, 32, 97, 116, 32, 51, 58, 32, 101, 114, 114, 111, 114, 32, 49] := by
  rw [Lib.toList_data]; rfl
set_option linter.unusedSimpArgs false in
set_option maxRecDepth 100000 in
set_option maxHeartbeats 4000000 in
theorem taken22 (w : World) (hE : ETy w) : Calls Tryz.prog 7 #[] w fun e w' => e = .returned (.bool true) ∧ Below w.heap.size w w' := by
  have h1 := put22 w ⟨1, [], [], []⟩ none 0 0 none 0 0 none 0 0 (rpI_nil w 1)
  have mE := rl_methodError
  go_enter Tryz.func7, Tryz.ntmps7
  go_wp2_with fail
  refine h1.mono ?_
  rintro e w1 ⟨b1, v1, rfl, hO1⟩
  obtain ⟨x1, c1, hv1⟩ := hO1.isB.len
  rw [put_len1] at hv1
  subst hv1
  rw [check1]
  have h2 := put22 w1 ⟨3, [], [], []⟩ none 0 0 none 0 0 none 0 0 (rpI_nil w1 3)
  clear h1 hO1
  go_wp2_with fail
  refine h2.mono ?_
  rintro e w2 ⟨b2, v2, rfl, hO2⟩
  rw [check3]
  have b3 := below_alloc w2 (.cells #[.int .u8 65, .int .u8 82, .int .u8 1, .int .u8 7, .int .u8 0, .int .u8 0, .int .u8 0, .int .u8 0, .int .u8 0, .int .u8 0] 5)
  have hy : IsB (w2.alloc (.cells #[.int .u8 65, .int .u8 82, .int .u8 1, .int .u8 7, .int .u8 0, .int .u8 0, .int .u8 0, .int .u8 0, .int .u8 0, .int .u8 0] 5)) (.slice (some ⟨w2.heap.size, 0, none⟩) 10 10) badB := (show rowB (w2.alloc (.cells #[.int .u8 65, .int .u8 82, .int .u8 1, .int .u8 7, .int .u8 0, .int .u8 0, .int .u8 0, .int .u8 0, .int .u8 0, .int .u8 0] 5)) w2.heap.size badB from heap_alloc_last w2 _).isB 10
  have h3 := get22 _ (some ⟨w2.heap.size, 0, none⟩) 10 10 badB hy rfl (by omega) (by omega) (fun a ha => by cases ha; simp)
  rw [get_bad] at h3
  have B3 : Hid (Below w.heap.size w (w2.alloc (.cells #[.int .u8 65, .int .u8 82, .int .u8 1, .int .u8 7, .int .u8 0, .int .u8 0, .int .u8 0, .int .u8 0, .int .u8 0, .int .u8 0] 5))) := (b1.trans (b2.mono b1.size)).trans (b3.mono (Nat.le_trans b1.size b2.size))
  have HE : Hid (ETy w) := hE
  clear h2 hO2 b1 b2 b3 hy hE
  go_wp2_with fail
  refine h3.mono ?_
  rintro e w3 ⟨b4, q, rfl, hq, hRq⟩
  clear h3
  have b5 := below_alloc w3 (.cells (rpA 0 (.slice none 0 0) (.slice none 0 0) (.slice none 0 0)) 32)
  have st := run_store_rp (w3.alloc (.cells (rpA 0 (.slice none 0 0) (.slice none 0 0) (.slice none 0 0)) 32)) w3.heap.size (rpA 0 (.slice none 0 0) (.slice none 0 0) (.slice none 0 0)) (RowC.new w3 _ _).1 (by rw [(RowC.new w3 _ _).2]; rfl) rfl (rpA_one _ _ _ _ _ _ _ _ _ _)
  have B4 : Hid (Below w.heap.size w (w3.alloc (.cells (rpA 0 (.slice none 0 0) (.slice none 0 0) (.slice none 0 0)) 32))) := (B3.out.trans (b4.mono B3.out.size)).trans (b5.mono (Nat.le_trans B3.out.size b4.size))
  have hR5 := hRq.kept b5
  clear b4 b5 B3 hq hRq
  go_upto_region 5 with fail
  clear st
  generalize w3.alloc (.cells (rpA 0 (.slice none 0 0) (.slice none 0 0) (.slice none 0 0)) 32) = W at B4 hR5 ⊢
  have h5 := fault22 q 3 1 W (HE.out.later B4.out) hR5
  go_wp2_with fail
  refine h5.mono ?_
  rintro e w5 ⟨rfl, b6⟩
  have hR6 := hR5.kept b6
  have B6 : Hid (Below w.heap.size w w5) := B4.out.trans (b6.mono B4.out.size)
  have h6 := error31 q w5 hR6
  clear h5 hR5 b6 B4 hR6
  go_wp2_with fail
  refine h6.mono ?_
  rintro e w6 ⟨rfl, b7⟩
  have B7 : Hid (Below w.heap.size w w6) := B6.out.trans (b7.mono B6.out.size)
  have h7 := errno1 w6
  clear h6 b7 B6
  go_wp2_with fail
  refine h7.mono ?_
  rintro e w7 ⟨rfl, rfl⟩
  clear h7
  have hcat := cat_known
  have h8 := error_nil w7
  have h9 := unwrap_nil w7
  go_wp2_with fail
  refine h8.mono ?_
  rintro e w8 ⟨rfl, rfl⟩
  clear h8
  go_wp2_with fail
  refine h9.mono ?_
  rintro e w9 ⟨rfl, rfl⟩
  clear h9
  have o3 := own_fdLit3 w9 (2, 1) (1, 0) (2, 1)
  have b8 := below_alloc w9 (.cells ((flK fdE [(2, 1), (1, 0), (2, 1)]).toArray) 25)
  have hS := sortF22 (some ⟨w9.heap.size, 0, none⟩) 3 3 _ _ (o3.isK fdE_ok) rfl (by omega)
  rw [sort_known] at hS
  have B8 : Hid (Below w.heap.size w (w9.alloc (.cells ((flK fdE [(2, 1), (1, 0), (2, 1)]).toArray) 25))) := B7.out.trans (b8.mono B7.out.size)
  clear o3 b8 B7
  go_wp2_with fail
  refine hS.mono ?_
  rintro e w10 ⟨v, rfl, hOv, b9⟩
  obtain ⟨x9, c9, rfl⟩ := (hOv.isK fdE_ok).len
  have o2 := own_fdLit2 w10 (1, 0) (2, 1)
  have b10 := below_alloc w10 (.cells ((flK fdE [(1, 0), (2, 1)]).toArray) 25)
  have hQ := same22 _ x9 c9 (some ⟨w10.heap.size, 0, none⟩) 2 2 [(1, 0), (2, 1)] rfl ((hOv.isK fdE_ok).kept b10) (o2.isK fdE_ok) (by omega)
  have B10 : Hid (Below w.heap.size w (w10.alloc (.cells ((flK fdE [(1, 0), (2, 1)]).toArray) 25))) := (B8.out.trans (b9.mono B8.out.size)).trans (b10.mono (Nat.le_trans B8.out.size b9.size))
  clear hS o2 b9 b10 B8 hOv
  go_wp2_with fail
  refine hQ.mono ?_
  rintro e w11 ⟨rfl, b11⟩
  have B11 : Hid (Below w.heap.size w w11) := B10.out.trans (b11.mono B10.out.size)
  clear hQ b11 B10
  go_wp2
  go_ret
  exact ⟨rfl, B11.out⟩
end Go.Proofs.YtklbdhpnbjhgkaaGreatDoor
