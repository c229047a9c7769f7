import Derived.Test.YtalnbddkhojjbaaGreatDoorQManB
import Derived.Test.YtalnbddkhojjbaaGreatDoorQMan3
import Derived.Test.YtalnbddkhojjbaaGreatDoorQLex9
namespace Go.Proofs.YtalnbddkhojjbaaGreatDoor
open Go.RowKit

def WrP16 (k : Int) (l : List Dc) (w : World) (e : Ending) (w' : World) : Prop := (∃ y n c, e = .returned (.tuple #[.slice y n c, .int .i64 (mwE k l)]) ∧ (mwS k l).length = n ∧ n ≤ c ∧ OwM w' w.heap.size (.slice y n c) (mwS k l)) ∧ Below w.heap.size w w'
structure ManOk (V : World → Prop) : Prop where
  keep : ∀ w w', V w → Below w.heap.size w w' → V w'
  rd : ∀ (l : List UInt8) (x : Option Addr) (n c : Nat) (w : World), l.length = n → n ≤ c → n ≤ 140737488355328 → IsB w (.slice x n c) l → V w → Calls Tryz.prog 8 #[.slice x n c] w fun e w' => RdP16 l w e w'
  wr : ∀ (k : Int) (l : List Dc) (x : Option Addr) (n c : Nat) (w : World), -9223372036854775808 ≤ k → k ≤ 9223372036854775807 → l.length = n → n ≤ 3518437208883 → IsK dcE w (.slice x n c) l → V w → Calls Tryz.prog 7 #[.int .i64 k, .slice x n c] w fun e w' => WrP16 k l w e w'
def tkD : Dc := ⟨dg_secZ, 7⟩
theorem tk_e2 : mwE 2 [] = 0 := by decide +kernel
theorem tk_e1 : mwE 1 [] = 1 := by decide +kernel
theorem tk_e7 : mwE 1 [tkD] = 0 := by decide +kernel
theorem tk_s2 : mwS 2 [] = [123, 34, 115, 99, 104, 101, 109, 97, 86, 101, 114, 115, 105, 111, 110, 34, 58, 50, 44, 34, 109, 97, 110, 105, 102, 101, 115, 116, 115, 34, 58, 91, 93, 125] := by decide +kernel
theorem isK_nil16 (w : World) : IsK dcE w (.slice none 0 0) [] := ⟨none, 0, rfl, Nat.le_refl _, fun i d h => by simp at h⟩
theorem mws_len16 (k : Int) (l : List Dc) : (mwS k l).length ≤ 4094 := by
  unfold mwS
  split
  · rename_i h
    refine mwT_len k l ?_
    unfold mwE at h
    split at h
    · cases h
    · split at h
      · cases h
      · omega
  · simp
set_option linter.unusedSimpArgs false in
set_option maxRecDepth 100000 in
set_option maxHeartbeats 16000000 in
theorem taken16_any {V : World → Prop} (O : ManOk V) (w : World) (hV : V w) : Calls Tryz.prog 6 #[] w fun e w' => e = .returned (.bool true) ∧ Below w.heap.size w w' := by
  have ed : dcA ⟨dg_secZ, 7⟩ = dcA tkD := rfl
  go_enter Tryz.func6, Tryz.ntmps6
  have h1 := O.wr 2 [] none 0 0 w (by omega) (by omega) rfl (by omega) (isK_nil16 w) hV
  unfold WrP16 at h1
  rw [tk_e2] at h1
  go_wp2_with fail
  refine h1.mono ?_
  rintro e w1 ⟨⟨y1, n1, c1, rfl, hl1, hc1, hO1⟩, hb1⟩
  clear h1
  have hV1 := O.keep _ _ hV hb1
  have h2 := O.wr 1 [] none 0 0 w1 (by omega) (by omega) rfl (by omega) (isK_nil16 w1) hV1
  unfold WrP16 at h2
  rw [tk_e1] at h2
  go_wp2_with fail
  refine h2.mono ?_
  rintro e w2 ⟨⟨y2, n2, c2, rfl, hl2, hc2, hO2⟩, hb2⟩
  clear h2 hO2 hl2
  have hV2 := O.keep _ _ hV1 hb2
  have hI1 := (OwM.isB hO1).kept hb2
  have h3 := O.rd (mwS 2 []) y1 n1 c1 w2 hl1 hc1 (by have := mws_len16 2 []; omega) hI1 hV2
  unfold RdP16 at h3
  rw [back16 2 [] tk_e2] at h3
  go_wp2_with fail
  refine h3.mono ?_
  rintro e w3 ⟨⟨y3, n3, c3, rfl, hl3, hO3⟩, hb3⟩
  clear h3 hO3
  have hV3 := O.keep _ _ hV2 hb3
  obtain rfl : n3 = 0 := by simpa using hl3.symm
  have hI1 := hI1.kept hb3
  have bA := below_alloc w3 (.cells (dcA tkD) 35)
  have hK := (dc_lit w3 tkD).isK dcE_ok
  have hI1 := hI1.kept bA
  have hV3' := O.keep _ _ hV3 bA
  have h4 := O.wr 1 [tkD] (some ⟨w3.heap.size, 0, none⟩) 1 1 _ (by omega) (by omega) rfl (by omega) hK hV3'
  unfold WrP16 at h4
  rw [tk_e7] at h4
  go_wp2_with fail
  refine h4.mono ?_
  rintro e w4 ⟨⟨y4, n4, c4, rfl, hl4, hc4, hO4⟩, hb4⟩
  clear h4 hK
  have hV4 := O.keep _ _ hV3' hb4
  have hI1 := hI1.kept hb4
  have h5 := O.rd (mwS 1 [tkD]) y4 n4 c4 w4 hl4 hc4 (by have := mws_len16 1 [tkD]; omega) (OwM.isB hO4) hV4
  unfold RdP16 at h5
  rw [back16 1 [tkD] tk_e7] at h5
  go_wp2_with fail
  refine h5.mono ?_
  rintro e w5 ⟨⟨y5, n5, c5, rfl, hl5, hO5⟩, hb5⟩
  clear h5
  have hI1 := hI1.kept hb5
  have hcv := hI1.str
  rw [tk_s2] at hcv
  obtain rfl : n5 = 1 := by simpa using hl5.symm
  have bB := below_alloc w5 (.cells (dcA tkD) 35)
  have h6 := same16_any [dcV tkD] [tkD] y5 (some ⟨w5.heap.size, 0, none⟩) 1 1 c5 1 _ rfl rfl ((hO5.isK dcE_ok).kept bB) ((dc_lit w5 tkD).isK dcE_ok) (by omega)
  rw [show sameD [dcV tkD] [tkD] = true from same_dcV [tkD]] at h6
  have hB3 : Below w.heap.size w w3 := (hb1.trans (hb2.mono hb1.size)).trans (hb3.mono (Nat.le_trans hb1.size hb2.size))
  have hB4 : Below w.heap.size w w4 := (hB3.trans (bA.mono hB3.size)).trans (hb4.mono (Nat.le_trans hB3.size bA.size))
  have hB5 : Below w.heap.size w w5 := hB4.trans (hb5.mono hB4.size)
  have HB6 : Hid (Below w.heap.size w (w5.alloc (.cells (dcA tkD) 35))) := hB5.trans (bB.mono hB5.size)
  clear hB3 hB4 hB5 hb1 hb2 hb3 hb4 hb5 hI1 hO1 hO4 hO5 bA bB hV hV1 hV2 hV3 hV3' hV4
  go_wp2_with fail
  refine h6.mono ?_
  rintro e w7 ⟨rfl, hb7⟩
  clear h6
  go_wp2
  go_ret
  exact ⟨rfl, HB6.out.trans (hb7.mono HB6.out.size)⟩
end Go.Proofs.YtalnbddkhojjbaaGreatDoor
