
import Derived.Test.YtgnjokbabecbdaaMrk8
namespace Go.Proofs.Ytgnjokbabecbdaa
open Go.RowKit

/-! mark.State -/
theorem wW_st (s : Sc) (j : List Sc) (k : Nat) (hk : k < 8) : wW s j k = stW s j k := by
  unfold wW stW numI
  rw [if_pos (by rw [inB_iff]; omega), Int.toNat_natCast]; rfl
theorem bOk_st (n : Int) (s : Sc) (j : List Sc) : bOk n s (wL s j (s 2).toNat (s 2).toNat) = bOk n s (stA s j) := by
  by_cases h : (s 2).toNat ≤ 8
  · have e : wL s j (s 2).toNat (s 2).toNat = stA s j := by
      unfold stA stN8
      rw [Nat.min_eq_left h]
      apply List.ext_getElem?
      intro k
      by_cases hk : k < (s 2).toNat
      · rw [wL_get _ _ _ _ _ hk, if_pos hk, stL_get _ _ _ _ hk, wW_st _ _ _ (by omega)]
      · rw [List.getElem?_eq_none (by rw [wL_len]; omega), List.getElem?_eq_none (by rw [stL_len]; omega)]
    rw [e]
  · have e1 : bOk n s (wL s j (s 2).toNat (s 2).toNat) = false := by
      unfold bOk batB lenB
      rw [wL_len, decide_eq_false (by omega)]; rfl
    rw [e1]
    cases hq : bOk n s (stA s j)
    · rfl
    · exfalso
      unfold bOk at hq
      rw [Bool.and_eq_true, secEq_iff] at hq
      have h2 := hq.2 2 (by omega)
      rw [marS_2] at h2
      have h8 : (stA s j).length = 8 := by unfold stA stN8; rw [stL_len]; omega
      rw [h8] at h2
      rw [← h2] at h
      exact h (by decide)
theorem bOk_len {n : Int} {s : Sc} {j : List Sc} (h : bOk n s (stA s j) = true) : wL s j (s 2).toNat (s 2).toNat = stA s j := by
  have h8 : (s 2).toNat ≤ 8 := by
    rw [← bOk_st] at h
    unfold bOk batB lenB at h
    rw [wL_len] at h
    simp only [Bool.and_eq_true, decide_eq_true_eq] at h
    omega
  unfold stA stN8
  rw [Nat.min_eq_left h8]
  apply List.ext_getElem?
  intro k
  by_cases hk : k < (s 2).toNat
  · rw [wL_get _ _ _ _ _ hk, if_pos hk, stL_get _ _ _ _ hk, wW_st _ _ _ (by omega)]
  · rw [List.getElem?_eq_none (by rw [wL_len]; omega), List.getElem?_eq_none (by rw [stL_len]; omega)]
theorem st1_size (gn gs gt gj gl : Nat) (n : Int) (W : World) (hn : ¬ (64 ≤ n ∧ n ≤ 1024)) (h0 : -9223372036854775808 ≤ n) (h1 : n ≤ 9223372036854775807) (ha : RowC W gn #[.int .i64 n]) :
    Calls Try.prog 19 #[.pointer (some ⟨gn, 0, none⟩), .pointer (some ⟨gs, 0, none⟩), .pointer (some ⟨gt, 0, none⟩), .pointer (some ⟨gj, 0, none⟩), .pointer (some ⟨gl, 0, none⟩)] W fun r w1 => r = .panicked (gup 22) ∧ Below W.heap.size W w1 := by
  have c0 : W.cell? ⟨gn, 0, none⟩ = some (.int .i64 n) := ha.cell 0
  have hD := disk_no n W hn h0 h1
  clear ha hn h0 h1
  go_enter Try.func19, Try.ntmps19
  go_wp2_with (go_at_call 18; refine hD.mono ?_; rintro e w1 ⟨rfl, hB⟩)
  exact ⟨rfl, rfl, hB⟩
set_option linter.unusedSimpArgs false in
theorem st1_zero (s : Sc) (gn gs gt gj gl : Nat) (n : Int) (W : World) (h0 : 64 ≤ n) (h1 : n ≤ 1024) (hz : secEq s secZ = true) (ha : RowC W gn #[.int .i64 n]) (hs : ScR W gs s) (ht : RowC W gt #[.int .i64 3]) :
    Calls Try.prog 19 #[.pointer (some ⟨gn, 0, none⟩), .pointer (some ⟨gs, 0, none⟩), .pointer (some ⟨gt, 0, none⟩), .pointer (some ⟨gj, 0, none⟩), .pointer (some ⟨gl, 0, none⟩)] W fun r w1 => r = .returned (.tuple #[]) ∧ ∃ w0, Below W.heap.size W w0 ∧ w1 = w0.setCell ⟨gt, 0, none⟩ (.int .i64 1) := by
  have c0 : W.cell? ⟨gn, 0, none⟩ = some (.int .i64 n) := ha.cell 0
  have hD := disk_yes n W h0 h1
  have hZ := fun w => zero_any s w
  simp only [hz] at hZ
  clear ha h0 h1 hz
  go_enter Try.func19, Try.ntmps19
  go_upto_region 1 with (go_at_call 18; refine hD.mono ?_; rintro e w1 ⟨rfl, hB⟩)
  have hA := below_alloc w1 (.cells (gA (geoF n)) 50)
  have hs1 := (hs.kept hB).kept hA
  have ht1 := (ht.kept hB).kept hA
  have hB1 := hB.trans (hA.mono hB.size)
  clear hD c0 hs ht hB hA
  generalize w1.alloc (.cells (gA (geoF n)) 50) = Y at hs1 ht1 hB1 ⊢
  obtain ⟨k1, k2⟩ := hs1
  have hZ1 := hZ Y
  go_wp2_with fail
  go_at_call 20
  refine hZ1.mono ?_
  rintro e w2 ⟨rfl, hb2⟩
  have ht2 := ht1.kept hb2
  have HB2 : Hid (Below W.heap.size W w2) := hB1.trans (hb2.mono hB1.size)
  have ct : w2.cell? ⟨gt, 0, none⟩ = some (.int .i64 3) := ht2.cell 0
  have ft := ht2.frozen 0
  clear hZ hZ1 hb2 hB1 ht1 ht2 k1 k2
  go_wp2_with fail
  first | go_end0 | refine bodyPost_ret (results_none rfl _ _ _) rfl ?_
  exact ⟨rfl, w2, HB2.out, rfl⟩
set_option linter.unusedSimpArgs false in
theorem st1_rest (s : Sc) (j : List Sc) (x : Option Addr) (L c gn gs gt gj gl : Nat) (n : Int) (W : World) (hL : j.length = L) (h63 : L ≤ 2199023255552) (hj : IsK secE W (.slice x L c) j) (h0 : 64 ≤ n) (h1 : n ≤ 1024) (hz : secEq s secZ = false)
    (ha : RowC W gn #[.int .i64 n]) (hs : ScR W gs s) (ht : RowC W gt #[.int .i64 3]) (hjr : RowC W gj #[.slice x L c]) (hl : RowC W gl #[.slice none 0 0]) (hne : gl ≠ gt) :
    Calls Try.prog 19 #[.pointer (some ⟨gn, 0, none⟩), .pointer (some ⟨gs, 0, none⟩), .pointer (some ⟨gt, 0, none⟩), .pointer (some ⟨gj, 0, none⟩), .pointer (some ⟨gl, 0, none⟩)] W fun r w1 =>
      (r = .panicked (gup (bZ n (wL s j (s 2).toNat (s 2).toNat))) ∧ Below W.heap.size W w1 ∧ bOk n s (stA s j) = false) ∨
      (r = .returned (.tuple #[]) ∧ bOk n s (stA s j) = true ∧ ∃ w0 g, Below W.heap.size W w0 ∧ OwnK wrE w0 W.heap.size (.slice (some ⟨g, 0, none⟩) (s 2).toNat (s 2).toNat) (stA s j) ∧
        w1 = (w0.setCell ⟨gl, 0, none⟩ (.slice (some ⟨g, 0, none⟩) (s 2).toNat (s 2).toNat)).setCell ⟨gt, 0, none⟩ (.int .i64 2)) := by
  have c0 : W.cell? ⟨gn, 0, none⟩ = some (.int .i64 n) := ha.cell 0
  have hD := disk_yes n W h0 h1
  have hZ := fun w => zero_any s w
  have hf := geoF_0 h0 h1
  have hBa := fun Y (h : IsK secE Y (.slice x L c) j) => batchOf_any s j x L c (geoF n) Y hL h63 h (by rw [hf]; exact h1)
  simp only [hz] at hZ
  simp only [hf] at hBa
  obtain ⟨m, hm⟩ : ∃ m, (s 2).toNat = m := ⟨_, rfl⟩
  have HOK : Hid (bOk n s (wL s j (s 2).toNat (s 2).toNat) = bOk n s (stA s j)) := bOk_st n s j
  have HLN : Hid (bOk n s (stA s j) = true → wL s j (s 2).toNat (s 2).toNat = stA s j) := bOk_len
  rw [hm] at HOK HLN
  simp only [hm] at hBa ⊢
  clear ha h0 h1 hz hm hf
  generalize geoF n = f at *
  go_enter Try.func19, Try.ntmps19
  go_upto_region 1 with (go_at_call 18; refine hD.mono ?_; rintro e w1 ⟨rfl, hB⟩)
  have hA := below_alloc w1 (.cells (gA f) 50)
  have hC := RowC.new w1 (gA f) 50
  have hs1 := (hs.kept hB).kept hA
  have ht1 := (ht.kept hB).kept hA
  have hj1 := (hjr.kept hB).kept hA
  have hl1 := (hl.kept hB).kept hA
  have hB1 := hB.trans (hA.mono hB.size)
  clear hD c0 hs ht hjr hl hB hA
  obtain ⟨g5, hg5⟩ : ∃ g, w1.heap.size = g := ⟨_, rfl⟩
  rw [hg5] at hC
  simp only [hg5]
  clear hg5
  generalize w1.alloc (.cells (gA f) 50) = Y at hs1 ht1 hj1 hl1 hB1 hC ⊢
  have HS1 : Hid (ScR Y gs s) := hs1
  obtain ⟨k1, k2⟩ := hs1
  have hZ1 := hZ Y
  go_wp2_with fail
  go_at_call 20
  refine hZ1.mono ?_
  rintro e w2 ⟨rfl, hb2⟩
  have hs2 := HS1.out.kept hb2
  have ht2 := ht1.kept hb2
  have hj2 := hj1.kept hb2
  have hl2 := hl1.kept hb2
  have hC2 := hC.kept hb2
  have hB2 := hB1.trans (hb2.mono hB1.size)
  have cj : w2.cell? ⟨gj, 0, none⟩ = some (.slice x L c) := hj2.cell 0
  have hBA := hBa w2 (hj.kept hB2)
  obtain ⟨k3, k4⟩ := hs2
  obtain ⟨k5, k6⟩ := hC2
  clear hZ hZ1 hb2 hB1 ht1 hj1 hj2 hl1 k1 k2 hC HS1 hBa
  go_wp2_with fail
  go_at_call 21
  refine hBA.mono ?_
  rintro e w3 (⟨rfl, hb3, hq⟩ | ⟨g, rfl, hO, hb3, hq⟩)
  · have HB3 : Hid (Below W.heap.size W w3) := hB2.trans (hb3.mono hB2.size)
    have HQ : Hid (bOk n s (wL s j m m) = false) := hq
    clear hBA hb3 hB2 ht2 hl2 cj k3 k4 k5 k6 hq
    exact ⟨rfl, .inl ⟨rfl, HB3.out, HOK.out ▸ HQ.out⟩⟩
  · have HQ : Hid (bOk n s (stA s j) = true) := by show _ = _; rw [← HOK.out]; exact hq
    have ht3 := ht2.kept hb3
    have hl3 := hl2.kept hb3
    have cl : w3.cell? ⟨gl, 0, none⟩ = some (.slice none 0 0) := hl3.cell 0
    have fl := hl3.frozen 0
    have ht4 := ht3.set_ne 0 (.slice (some ⟨g, 0, none⟩) m m) hne
    have ct : (w3.setCell ⟨gl, 0, none⟩ (.slice (some ⟨g, 0, none⟩) m m)).cell? ⟨gt, 0, none⟩ = some (.int .i64 3) := ht4.cell 0
    have ft := ht4.frozen 0
    have HB3 : Hid (Below W.heap.size W w3) := hB2.trans (hb3.mono hB2.size)
    rw [HLN.out HQ.out] at hO
    have HO : Hid (OwnK wrE w3 W.heap.size (.slice (some ⟨g, 0, none⟩) m m) (stA s j)) := hO.le hB2.size
    clear hBA hb3 hB2 ht2 hl2 cj k3 k4 k5 k6 hq hO ht3 hl3 ht4
    go_wp2_with fail
    go_end0
    exact .inr ⟨rfl, HQ.out, w3, g, HB3.out, HO.out, rfl⟩
end Go.Proofs.Ytgnjokbabecbdaa
