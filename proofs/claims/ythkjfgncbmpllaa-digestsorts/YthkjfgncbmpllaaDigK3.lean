
import Derived.Test.YthkjfgncbmpllaaDigK2
namespace Go.Proofs.Ythkjfgncbmpllaa
open Go.RowKit

def dOne : Dg := dgOf [(0, 1)] dg_secZ
def dTwo : Dg := dgOf [(0, 2)] dg_secZ
def dTen : Dg := dgOf [(0, 10), (1, 255)] dg_secZ
theorem one_two : dN dOne < dN dTwo := by decide +kernel
theorem zero_one : dN dg_secZ < dN dOne := by decide +kernel
theorem sorted3 {rs : List Dg} (h : SortedTo [dTwo, dOne, dTwo] rs) : decide (nums rs = nums [dOne, dTwo]) = true := by
  rw [decide_eq_true_iff]
  have h12 := one_two
  refine asc_unique _ _ h.1 ?_ fun n => ?_
  · simp [nums, h12]
  · rw [h.2]; simp [nums]
    omega
set_option linter.unusedSimpArgs false in
set_option maxRecDepth 100000 in
set_option maxHeartbeats 1600000 in
theorem known_any (hT : TextOk) (hP : ParseOk) (hC : CompareOk) (hS : SortedOk) : KnownOk := by
  intro w
  have hPg := hP goodL
  have hPb := hP badL
  have hTz := hT dg_secZ
  rw [zero_is, zero_eq] at hTz
  have c1 := cat_good
  have c2 := cat_bad
  have hcut := cut11
  have t60 := tail60_size
  have s1 : (ByteArray.mk #[115, 104, 97, 50, 53, 54, 58, 48, 97, 102, 102]).size = 11 := rfl
  have s2 : (ByteArray.mk #[115, 104, 97, 50, 53, 54, 58, 48, 65, 70, 70]).size = 11 := rfl
  have HG : Hid (∀ d c, ParsedTo goodL d c → dg_secEq d dTen = true ∧ c = 0) := fun d c h => by
    rcases h with ⟨_, rfl, rfl⟩ | ⟨hn, _, _⟩
    · exact ⟨(dg_secEq_iff _ _).2 good_is.2, rfl⟩
    · exact absurd good_is.1 hn
  have HBd : Hid (∀ d c, ParsedTo badL d c → c = 35) := fun d c h => by
    rcases h with ⟨hg, _, _⟩ | ⟨_, _, h⟩
    · exact absurd hg bad_is
    · exact h
  have e1 : dgOf [(0, 1)] dg_secZ = dOne := rfl
  have e2 : dgOf [(0, 2)] dg_secZ = dTwo := rfl
  have e3 : dgOf [(0, 10), (1, 255)] dg_secZ = dTen := rfl
  have hCz := hC dg_secZ dOne
  rw [show dcmp dg_secZ dOne = -1 by rw [dcmp_num, if_pos zero_one]] at hCz
  have H3 : Hid (∀ rs, SortedTo [dTwo, dOne, dTwo] rs → decide (nums rs = nums [dOne, dTwo]) = true) := fun rs h => sorted3 h
  generalize ByteArray.mk goodL.toArray = gS at c1 hPg
  generalize ByteArray.mk badL.toArray = bS at c2 hPb
  generalize tail60 = T6 at hcut c1 c2 t60
  generalize dOne = D1 at *
  generalize dTwo = D2 at *
  generalize dTen = D10 at *
  go_enter Try.func9, Try.ntmps9
  go_wp2_with fail
  refine (hPg _).mono ?_
  rintro e w1 ⟨⟨d, c, rfl, hpd⟩, hw1⟩
  obtain ⟨hd10, rfl⟩ := HG.out d c hpd
  have hRd : DgR (w1.alloc (.cells (dg_secA d) 23)) w1.heap.size d := DgR.new _ _ _
  have hB1 := hw1.alloc hw1.size (.cells (dg_secA d) 23)
  clear hPg HG hpd hw1
  go_wp2_with fail
  generalize w1.heap.size = gd at hRd ⊢
  generalize w1.alloc (.cells (dg_secA d) 23) = X1 at hRd hB1 ⊢
  refine (hPb _).mono ?_
  rintro e w2 ⟨⟨d2, c2', rfl, hpd2⟩, hw2⟩
  obtain rfl := HBd.out d2 c2' hpd2
  replace hRd := hRd.kept hw2
  replace hB1 := hB1.trans (hw2.mono hB1.size)
  clear hPb HBd hpd2 hw2 c1 c2 s1 s2 hcut
  go_upto_region 3 with fail
  replace hRd := hRd.kept (below_alloc w2 (.cells (dg_secA d2) 23))
  replace hB1 := hB1.alloc hB1.size (.cells (dg_secA d2) 23)
  generalize w2.alloc (.cells (dg_secA d2) 23) = X2 at hRd hB1 ⊢
  have hL3 := (OwnDs.lit X2 [D2, D1, D2] (by unfold maxLen; simp)).isDs
  go_wp2_with fail
  refine (hS (some ⟨X2.heap.size, 0, none⟩) 3 [D2, D1, D2] _ hL3 (by simp)).mono ?_
  rintro e w3 ⟨v, rs, rfl, hO3, hst, hw3⟩
  have hsame := H3.out rs hst
  replace hRd := (hRd.kept (below_alloc X2 (.cells (flatD [D2, D1, D2]).toArray 23))).kept hw3
  replace hB1 := hB1.alloc hB1.size (.cells (flatD [D2, D1, D2]).toArray 23)
  replace hB1 := hB1.trans (hw3.mono hB1.size)
  obtain ⟨xr, cr, rfl⟩ := hO3.isDs.len
  have hI3 := hO3.isDs
  clear hw3 hL3 H3 hst hO3 hS
  go_wp2_with fail
  refine (hTz _).mono ?_
  rintro e w4 ⟨rfl, hw4⟩
  replace hRd := hRd.kept hw4
  replace hI3 := hI3.kept hw4
  replace hB1 := hB1.trans (hw4.mono hB1.size)
  clear hw4 hTz
  obtain ⟨r1, q1⟩ := hRd
  go_wp2_with fail
  refine (hCz _).mono ?_
  rintro e w5 ⟨rfl, hw5⟩
  replace hI3 := hI3.kept hw5
  replace hB1 := hB1.trans (hw5.mono hB1.size)
  clear hw5 hCz r1 q1
  have hL2 := (OwnDs.lit w5 [D1, D2] (by unfold maxLen; simp)).isDs
  have hI4 := hI3.kept (below_alloc w5 (.cells (flatD [D1, D2]).toArray 23))
  have hB2 := hB1.alloc hB1.size (.cells (flatD [D1, D2]).toArray 23)
  have hss := same_any xr (some ⟨w5.heap.size, 0, none⟩) cr 2 rs [D1, D2] _ hI4 hL2 (by
    have h9 := congrArg List.length (of_decide_eq_true hsame)
    rw [nums_len, nums_len] at h9
    simp at h9; omega)
  rw [hsame] at hss
  clear hL2 hI4 hI3 hB1
  go_wp2_with fail
  refine hss.mono ?_
  rintro e w6 ⟨rfl, hw6⟩
  have HB : Hid _ := hB2.trans (hw6.mono hB2.size)
  clear hw6 hB2 hss
  go_wp2
  go_ret
  exact ⟨rfl, HB.out⟩
end Go.Proofs.Ythkjfgncbmpllaa
