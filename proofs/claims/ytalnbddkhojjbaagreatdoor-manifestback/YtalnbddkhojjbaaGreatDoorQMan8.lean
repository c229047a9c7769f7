import Derived.Test.YtalnbddkhojjbaaGreatDoorQMan7
import Derived.Test.YtalnbddkhojjbaaGreatDoorQGal
import Derived.Test.YtalnbddkhojjbaaGreatDoorQManB
namespace Go.Proofs.YtalnbddkhojjbaaGreatDoor
open Go.RowKit

/-! assaylaw16's apart -/
end Go.Proofs.YtalnbddkhojjbaaGreatDoor
namespace Go.Proofs.YtalnbddkhojjbaaGreatDoor
open Go.RowKit

/-! ManifestBack -/
/-- append(append(p, b...), z) -/
theorem app_lit16 (w : World) (p : List UInt8) (q : Nat) (cs : Array Value) (hc : cs = bytesA p) (hq : p.length = q) (x : Option Addr) (L c : Nat) (l : List UInt8) (z : UInt8) (hl : l.length = L) (h : IsB w (.slice x L c) l) (hL : L ≤ 140737488351232) (hp : q ≤ 1) :
    ∃ v1 w1 v2 w2, (Builtin.append_ #[24, 24] 24 #[.slice (some ⟨w.heap.size, 0, none⟩) q q, .slice x L c]).run Tryz.prog (w.alloc (.cells cs 5)) = .ok v1 w1 ∧
      (Builtin.append_ #[24, 24] 24 #[v1, .slice (some ⟨w1.heap.size, 0, none⟩) 1 1]).run Tryz.prog (w1.alloc (.cells #[Value.int .u8 (z.toNat : Int)] 5)) = .ok v2 w2 ∧ OwnB w2 w.heap.size v2 (p ++ l ++ [z]) ∧ Below w.heap.size w w2 := by
  subst hc
  have bA := below_alloc w (.cells (bytesA p) 5)
  have hO0 : OwnB (w.alloc (.cells (bytesA p) 5)) w.heap.size (.slice (some ⟨w.heap.size, 0, none⟩) q q) p := OwnB.newB w p q hq (by unfold maxLen; omega)
  have hlA := h.kept bA
  subst hl
  obtain ⟨v1, w9, hr1, hO1, hg1, -⟩ := run_app_more _ _ _ p x c l 24 hO0 hlA (by omega) bA.size
  have hB9 : Below w.heap.size w w9 := bA.trans (below_grown hO0 hg1 bA.size)
  have bC := below_alloc w9 (.cells #[Value.int .u8 (z.toNat : Int)] 5)
  have hlit : IsB (w9.alloc (.cells #[Value.int .u8 (z.toNat : Int)] 5)) (.slice (some ⟨w9.heap.size, 0, none⟩) [z].length 1) [z] := .inr ⟨⟨w9.heap.size, 0, none⟩, 1, rfl, fun i hi => by
    have : i = 0 := by simp at hi; omega
    subst this
    rw [addr_add, cell_of_row _ _ _ _ _ _ (heap_alloc_last _ _)]; rfl⟩
  have hsz9 : w.heap.size ≤ (w9.alloc (.cells #[Value.int .u8 (z.toNat : Int)] 5)).heap.size := Nat.le_trans hB9.size bC.size
  obtain ⟨v2, wa, hr2, hO2, hg2, -⟩ := run_app_more _ _ _ (p ++ l) _ 1 [z] 24 (hO1.keep bC) hlit (by simp; omega) hsz9
  exact ⟨v1, w9, v2, wa, hr1, hr2, hO2, (hB9.trans (bC.mono hB9.size)).trans (below_grown (hO1.keep bC) hg2 hsz9)⟩
/-- append([]api.Desc{}, l...) -/
theorem copy_dc16 (w : World) (x : Option Addr) (n c : Nat) (l : List Dc) (hn : l.length = n) (h : IsK dcE w (.slice x n c) l) (hl : n ≤ 3518437208883) :
    ∃ v c' w', (Builtin.append_ #[22, 22] 22 #[.slice (some ⟨w.heap.size, 0, none⟩) 0 0, .slice x n c]).run Tryz.prog (w.alloc (.cells #[] 35)) = .ok (.slice v n c') w' ∧ OwnK dcE w' w.heap.size (.slice v n c') l ∧ Below w.heap.size w w' := by
  have bA := below_alloc w (.cells #[] 35)
  obtain ⟨v, c', w', hr, hO, hB⟩ := run_appAll16 dcE_ok (w.alloc (.cells #[] 35)) w.heap.size (some ⟨w.heap.size, 0, none⟩) 0 0 [] l x n c n 22 (OwnK.lit0 dcE w) (h.kept bA) rfl hn (by omega) (by show n * 40 ≤ _; omega) (by unfold maxLen; omega) bA.size
  exact ⟨v, c', w', hr, by simpa using hO, bA.trans hB⟩
set_option linter.unusedSimpArgs false in
set_option maxRecDepth 100000 in
set_option maxHeartbeats 16000000 in
theorem lawBack16_any {V : World → Prop} (O : ManOk V) (k : Int) (l : List Dc) (x : Option Addr) (n c : Nat) (w : World) (hV : V w) (hk0 : -9223372036854775808 ≤ k) (hk1 : k ≤ 9223372036854775807) (hn : l.length = n) (hl47 : n ≤ 3518437208883) (h : IsK dcE w (.slice x n c) l) :
    Calls Tryz.prog 3 #[.int .i64 k, .slice x n c] w fun e w' => e = .returned (.bool true) ∧ Below w.heap.size w w' := by
  have kK := taken16_any O w hV
  go_enter Tryz.func3, Tryz.ntmps3
  go_wp2_with fail
  refine kK.mono ?_
  rintro e w8 ⟨rfl, hB8⟩
  clear kK
  obtain ⟨v9, c9, w9, hr9, hO9, hB9⟩ := copy_dc16 w8 x n c l hn (h.kept hB8) hl47
  have hB9w : Below w.heap.size w w9 := hB8.trans (hB9.mono hB8.size)
  have hW := O.wr k l v9 n c9 w9 hk0 hk1 hn hl47 (hO9.isK dcE_ok) (O.keep _ _ hV hB9w)
  unfold WrP16 at hW
  obtain ⟨E, hE⟩ : ∃ q, mwE k l = q := ⟨_, rfl⟩
  have HE : Hid (mwE k l = E) := hE
  rw [hE] at hW
  clear hE hO9 hB9 hB8
  go_wp2_with (at_builtin; refine wpL_appG 22 rfl _ _ rfl _ w9 (by exact hr9) ?_)
  refine hW.mono ?_
  rintro e w1 ⟨⟨y, m, cb, rfl, hm, hmc, hO1⟩, hb1⟩
  clear hW hr9
  have hB1 : Below w.heap.size w w1 := hB9w.trans (hb1.mono hB9w.size)
  by_cases h0 : E = 0
  · subst h0
    have hR := back16 k l HE.out
    have hRB := back_blank16 k l HE.out
    have hRM := back_more16 k l HE.out
    have hRL := back_less16 k l HE.out
    have hml := mws_len16 k l
    obtain ⟨T, hT⟩ : ∃ q, mwS k l = q := ⟨_, rfl⟩
    rw [hT] at hR hRB hRM hRL hml hm hO1
    clear hT
    obtain ⟨hRL, hpos⟩ := hRL
    have hI1 := hO1.isB
    have h1 := O.rd T y m cb w1 hm hmc (by omega) hI1 (O.keep _ _ hV hB1)
    unfold RdP16 at h1
    rw [hR] at h1
    simp only at h1
    clear hR
    go_wp2_with fail
    refine h1.mono ?_
    rintro e w2 ⟨⟨y2, n2, c2, rfl, hn2, hO2⟩, hb2⟩
    clear h1
    have hB2 : Below w.heap.size w w2 := hB1.trans (hb2.mono hB1.size)
    have h2 := same16_any (l.map dcV) l y2 x n2 n c2 c w2 hn2 hn (hO2.isK dcE_ok) (h.kept hB2) (by rw [← hn2, List.length_map]; omega)
    rw [same_dcV l] at h2
    have i94 : ¬ (4094 : Int) < (m : Int) := by omega
    clear hO2 hn2
    go_wp2_with fail
    refine h2.mono ?_
    rintro e w3 ⟨rfl, hb3⟩
    clear h2
    have hB3 : Below w.heap.size w w3 := hB2.trans (hb3.mono hB2.size)
    have hI3 := (hI1.kept hb2).kept hb3
    obtain ⟨m1, hm1⟩ : ∃ q, m = q + 1 := ⟨m - 1, by omega⟩
    have hT1 : T.length - 1 = m1 := by omega
    rw [hT1] at hRL
    have HM : Hid (m = m1 + 1) := hm1
    have hwm : IntKind.i64.wrap ((m : Int) - 1) = (m1 : Int) := by rw [IntKind.wrap_i64]; omega
    have hj0 : (0 : Int) ≤ (m1 : Int) := by omega
    have hj1 : (m1 : Int) ≤ (cb : Int) := by omega
    obtain ⟨gy, oy, hy9⟩ : ∃ b o, y = some ⟨b, o, none⟩ := by
      rcases hO1 with ⟨-, h9⟩ | ⟨g, cap, he, -⟩
      · rw [h9] at hpos; simp at hpos
      · simp only [Value.slice.injEq] at he; exact ⟨g, 0, he.1⟩
    subst hy9
    have hIf := hI3.frontB (m := m1) (by omega)
    have h3 := O.rd (T.take m1) (some ⟨gy, oy, none⟩) m1 cb w3 (by rw [List.length_take]; omega) (by omega) (by omega) hIf (O.keep _ _ hV hB3)
    unfold RdP16 at h3
    rw [hRL] at h3
    simp only at h3
    clear hRL hIf hm1 hT1 hI1
    go_wp2_with fail
    refine h3.mono ?_
    rintro e w4 ⟨⟨y4, n4, c4, rfl, hn4, -⟩, hb4⟩
    clear h3 hn4 hwm hj0 hj1 i94
    have hB4 : Below w.heap.size w w4 := hB3.trans (hb4.mono hB3.size)
    have hI4 := hI3.kept hb4
    obtain ⟨v5, w5, v6, w6, hr5, hr6, hO6, hB6⟩ := app_lit16 w4 [] 0 #[] rfl rfl _ m cb T 125 hm hI4 (by omega) (by omega)
    rw [List.nil_append] at hO6
    have hB6w : Below w.heap.size w w6 := hB4.trans (hB6.mono hB4.size)
    have hI6 := hI4.kept hB6
    obtain ⟨g6, c6, rfl, -, hc6, -⟩ := hO6.form (by simp)
    have hl6 : (T ++ [(125 : UInt8)]).length = m + 1 := by rw [List.length_append, hm]; rfl
    obtain ⟨m6, hm6⟩ : ∃ q, m + 1 = q := ⟨_, rfl⟩
    have HM6 : Hid (m + 1 = m6) := hm6
    rw [hl6, hm6] at hr6 hc6 hO6
    rw [hm6] at hl6
    clear hm6
    have h5 := O.rd (T ++ [125]) (some ⟨g6, 0, none⟩) m6 c6 w6 hl6 hc6 (by have := HM6.out; omega) hO6.isB (O.keep _ _ hV hB6w)
    unfold RdP16 at h5
    rw [hRM] at h5
    simp only at h5
    clear hRM hO6 hB6 hI4 hB4 hb4 hl6 hc6
    go_wp2_with (at_builtin; first | (refine wpL_app rfl _ _ rfl v5 w5 (by exact hr5) ?_; clear hr5) | (refine wpL_app rfl _ _ rfl _ w6 (by exact hr6) ?_; clear hr6))
    refine h5.mono ?_
    rintro e w7 ⟨⟨y7, n7, c7, rfl, hn7, -⟩, hb7⟩
    clear h5 hn7
    have hB7 : Below w.heap.size w w7 := hB6w.trans (hb7.mono hB6w.size)
    have hI7 := hI6.kept hb7
    obtain ⟨va, wa, vb, wb, hra, hrb, hOb, hBb⟩ := app_lit16 w7 [32] 1 #[.int .u8 32] rfl rfl _ m cb T 10 hm hI7 (by omega) (by omega)
    have hBbw : Below w.heap.size w wb := hB7.trans (hBb.mono hB7.size)
    obtain ⟨gb, cc, rfl, -, hcc, -⟩ := hOb.form (by simp)
    have hlb : ([32] ++ T ++ [(10 : UInt8)]).length = m + 2 := by simp; omega
    obtain ⟨mb, hmb⟩ : ∃ q, m + 2 = q := ⟨_, rfl⟩
    have HMB : Hid (m + 2 = mb) := hmb
    rw [hlb, hmb] at hrb hcc hOb
    rw [hmb] at hlb
    clear hmb
    have hb9 := O.rd ([32] ++ T ++ [10]) (some ⟨gb, 0, none⟩) mb cc wb hlb hcc (by have := HMB.out; omega) hOb.isB (O.keep _ _ hV hBbw)
    unfold RdP16 at hb9
    rw [hRB] at hb9
    simp only at hb9
    clear hRB hOb hBb hI7 hI6 hB7 hb7 hlb hcc
    go_wp2_with (at_builtin; first | (refine wpL_app rfl _ _ rfl va wa (by exact hra) ?_; clear hra) | (refine wpL_app rfl _ _ rfl _ wb (by exact hrb) ?_; clear hrb))
    refine hb9.mono ?_
    rintro e wc ⟨⟨yc, nc, cd, rfl, hnc, hOc⟩, hbc⟩
    clear hb9
    have hBc : Below w.heap.size w wc := hBbw.trans (hbc.mono hBbw.size)
    have h2 := same16_any (l.map dcV) l yc x nc n cd c wc hnc hn (hOc.isK dcE_ok) (h.kept hBc) (by rw [← hnc, List.length_map]; omega)
    rw [same_dcV l] at h2
    clear hOc hnc
    go_wp2_with fail
    refine h2.mono ?_
    rintro e wd ⟨rfl, hbd⟩
    clear h2
    have HB : Hid (Below w.heap.size w wd) := hBc.trans (hbd.mono hBc.size)
    go_wp2
    go_ret
    exact ⟨rfl, HB.out⟩
  · have hTe : mwS k l = [] := by unfold mwS; rw [if_neg (by rw [HE.out]; exact h0)]
    rw [hTe] at hm
    obtain rfl : m = 0 := by simpa using hm.symm
    have hin := mwE_in k l
    rw [HE.out] at hin
    clear hO1 hm hmc hTe HE
    rcases hin with rfl | rfl | rfl | rfl
    · exact absurd rfl h0
    · go_wp2
      go_ret
      exact ⟨rfl, hB1⟩
    · go_wp2
      go_ret
      exact ⟨rfl, hB1⟩
    · go_wp2
      go_ret
      exact ⟨rfl, hB1⟩
end Go.Proofs.YtalnbddkhojjbaaGreatDoor
