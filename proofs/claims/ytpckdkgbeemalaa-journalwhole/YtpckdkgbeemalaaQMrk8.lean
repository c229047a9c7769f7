import Derived.Test.YtpckdkgbeemalaaQMrk7
import Derived.Test.YtpckdkgbeemalaaQMar3
namespace Go.Proofs.Ytpckdkgbeemalaa
open Go.RowKit

/-! mark.batchOf -/
theorem wL_B (s : Sc) (j : List Sc) (n : Nat) : WrB (wL s j n n) := fun i hi => by
  rw [wL_len] at hi
  have h := wL_get s j n n i hi
  rw [if_pos hi] at h
  have := (atW_get h).1
  rw [this]
  have hl := numI_lt s ((4 + 2 * i : Nat) : Int) 2
  have e : (256 : Nat) ^ (2 : Int).toNat = 65536 := by decide
  rw [e] at hl
  unfold wW
  simp only
  omega
/-- What batchOf decides. -/
def bZ (n : Int) (l : List Wr) : Int := bif batB n l then 11 else 24
def bOk (n : Int) (s : Sc) (l : List Wr) : Bool := batB n l && secEq (marS l) s
set_option linter.unusedSimpArgs false in
set_option maxHeartbeats 1600000 in
set_option maxRecDepth 100000 in
theorem batchOf_any (s : Sc) (j : List Sc) (x : Option Addr) (L c : Nat) (f : Nat → Int) (w : World) (hL : j.length = L) (h63 : L ≤ 2199023255552) (hj : IsK secE w (.slice x L c) j) (hf : f 0 ≤ 1024) :
    Calls Try.prog 57 #[.agg (secA s), .slice x L c, .agg (gA f)] w fun r w' =>
      (r = .panicked (gup (bZ (f 0) (wL s j (s 2).toNat (s 2).toNat))) ∧ Below w.heap.size w w' ∧ bOk (f 0) s (wL s j (s 2).toNat (s 2).toNat) = false) ∨
      (∃ g, r = .returned (.slice (some ⟨g, 0, none⟩) (s 2).toNat (s 2).toNat) ∧ OwnK wrE w' w.heap.size (.slice (some ⟨g, 0, none⟩) (s 2).toNat (s 2).toNat) (wL s j (s 2).toNat (s 2).toNat) ∧ Below w.heap.size w w' ∧ bOk (f 0) s (wL s j (s 2).toNat (s 2).toNat) = true) := by
  have hw0 := fun Y (h : IsK secE Y (.slice x L c) j) => writesOf_any s j x L c Y hL h63 h
  obtain ⟨m, hm⟩ : ∃ m, (s 2).toNat = m := ⟨_, rfl⟩
  have hm8 : m ≤ 255 := by have := (s 2).toNat_lt; omega
  have hl9 : (wL s j m m).length = m := wL_len s j m m
  have hlB := wL_B s j m
  obtain ⟨l, hl⟩ : ∃ l, wL s j m m = l := ⟨_, rfl⟩
  simp only [hm, hl] at hw0 ⊢
  rw [hl] at hl9 hlB
  clear hm hl
  go_enter Try.func57, Try.ntmps57
  go_upto_region 1 with fail
  have hB0 : Below w.heap.size w ((w.alloc (.cells (secA s) 44)).alloc (.cells (gA f) 106)) := (below_alloc w _).alloc (by simp) _
  have h30 : ScR ((w.alloc (.cells (secA s) 44)).alloc (.cells (gA f) 106)) w.heap.size s := (ScR.new w s 44).kept (below_alloc _ _)
  have h50 : RowC ((w.alloc (.cells (secA s) 44)).alloc (.cells (gA f) 106)) (w.heap.size + 1) (gA f) := by
    have := RowC.new (w.alloc (.cells (secA s) 44)) (gA f) 106
    rw [World.size_alloc] at this; exact this
  obtain ⟨g5, hg5⟩ : ∃ g, w.heap.size + 1 = g := ⟨_, rfl⟩
  obtain ⟨g3, hg3⟩ : ∃ g, w.heap.size = g := ⟨_, rfl⟩
  rw [hg5] at h50
  rw [hg3] at h30
  simp only [hg5]
  simp only [hg3]
  clear hg5
  have HG3 : Hid (w.heap.size = g3) := hg3
  clear hg3
  generalize (w.alloc (.cells (secA s) 44)).alloc (.cells (gA f) 106) = Y at hB0 h30 h50 ⊢
  have hw := hw0 Y (hj.kept hB0)
  have hH : Hid (Below w.heap.size w Y ∧ ScR Y g3 s ∧ RowC Y g5 (gA f)) := ⟨hB0, h30, h50⟩
  obtain ⟨k3, k4⟩ := h30
  clear hB0 h50 hj hw0
  go_upto_region 2 with (go_at_call 74; refine hw.mono ?_; rintro e X ⟨g, rfl, hO, hb1⟩)
  obtain ⟨hB0, h30, h50⟩ := hH.out
  have h3 := h30.kept hb1
  have h5 := h50.kept hb1
  have hBX := hB0.trans (hb1.mono hB0.size)
  replace hO := hO.le hB0.size
  clear hH hw k3 k4 hB0 h30 h50 hb1
  cases hbat : batB (f 0) l
  · skip
    refine wp_reliesP (fun ch w' => ch = gup 24 ∧ Below X.heap.size X w') [Fx (.slice (some ⟨g, 0, none⟩) m m), Fx (.agg (gA f)), (fun _ _ => False), Fx (.agg (secA s))] (by kernel_rfl) (by kernel_rfl) ?_ ?_ ?_ ?_
    · repeat' (first | exact all_nil | apply all_cons)
      all_goals intro v y y' hv hb
      all_goals first | exact Fx_mono _ _ _ _ hv hb | exact hv.elim
    · refine ⟨?_, ?_, ?_, ?_, trivial⟩
      all_goals
        intro ρ x9 hp ρc ρg ρf ho hd
        have o7 : ρ (.tmp 7) = .slice (some ⟨g, 0, none⟩) m m := ho 7 rfl
        have o5 : ρ (.tmp 5) = .pointer (some ⟨g5, 0, none⟩) := ho 5 rfl
        have o3 : ρ (.tmp 3) = .pointer (some ⟨g3, 0, none⟩) := ho 3 rfl
        clear ho
        have qa := h5.kept hp
        have qb := h3.kept hp
        obtain ⟨k1, k2⟩ := qa
        obtain ⟨k3, k4⟩ := qb
        simp only [depsR, depR, slotR, Fx, List.getElem?_cons_succ, List.getElem?_cons_zero, Region.binds, forall_const] at hd
        simp only [guardR]
        go_split_ands
      · go_simp
      · go_simp
      · go_simp
        refine (markOf_no l _ m m f x9 hl9 (by omega) ((hO.keep hp).isK wrE_ok) hlB hbat).mono ?_
        rintro e w' ⟨rfl, hw⟩
        first | exact .inr ⟨_, rfl, rfl, hp.trans (hw.mono hp.size)⟩ | exact ⟨_, rfl, rfl, hp.trans (hw.mono hp.size)⟩
      · go_simp
    · intro vs x2 hp hw
      simp only [owed, Fx] at hw
      exact (hw.2.2.1).elim
    · intro a9 ch w' hd hz
      obtain ⟨rfl, hz2⟩ := hz
      exact ⟨hd, .inl ⟨by unfold bZ; rw [hbat]; rfl, hBX.trans (hz2.mono hBX.size), by unfold bOk; rw [hbat]; rfl⟩⟩
  · skip
    refine wp_reliesP (fun _ _ => False) [Fx (.slice (some ⟨g, 0, none⟩) m m), Fx (.agg (gA f)), Fx (.agg (secA (marS l))), Fx (.agg (secA s))] (by kernel_rfl) (by kernel_rfl) ?_ ?_ ?_ ?_
    · repeat' (first | exact all_nil | apply all_cons)
      all_goals intro v y y' hv hb
      all_goals first | exact Fx_mono _ _ _ _ hv hb | exact hv.elim
    · refine ⟨?_, ?_, ?_, ?_, trivial⟩
      all_goals
        intro ρ x9 hp ρc ρg ρf ho hd
        have o7 : ρ (.tmp 7) = .slice (some ⟨g, 0, none⟩) m m := ho 7 rfl
        have o5 : ρ (.tmp 5) = .pointer (some ⟨g5, 0, none⟩) := ho 5 rfl
        have o3 : ρ (.tmp 3) = .pointer (some ⟨g3, 0, none⟩) := ho 3 rfl
        clear ho
        have qa := h5.kept hp
        have qb := h3.kept hp
        obtain ⟨k1, k2⟩ := qa
        obtain ⟨k3, k4⟩ := qb
        simp only [depsR, depR, slotR, Fx, List.getElem?_cons_succ, List.getElem?_cons_zero, Region.binds, forall_const] at hd
        simp only [guardR]
        go_split_ands
      · go_simp
      · go_simp
      · go_simp
        refine (markOf_yes l _ m m f x9 hl9 ((hO.keep hp).isK wrE_ok) hlB hbat hf).mono ?_
        rintro e w' ⟨rfl, hw⟩
        first | exact .inl ⟨_, rfl, rfl, hw⟩ | exact ⟨_, rfl, rfl, hw⟩
      · go_simp
    · intro vs x2 hp hw
      simp only [owed, Fx] at hw
      obtain ⟨e0, e1, e2, e3, -⟩ := hw
      simp only [List.length_cons, List.length_nil, List.take_succ_cons, List.take_zero, List.drop_succ_cons, List.drop_zero, asg, List.cons_append, List.nil_append, e0, e1, e2, e3]
      clear e0 e1 e2 e3
      have hO2 := hO.keep hp
      have hB2 := hBX.trans (hp.mono hBX.size)
      have HO2 : Hid _ := hO2
      have HB2 : Hid (Below w.heap.size w x2) := hB2
      have HBA : Hid (batB (f 0) l = true) := hbat
      cases hse : secEq (marS l) s
      · have HQ : Hid (secEq (marS l) s = false) := hse
        clear h3 h5 hO hp hO2 hB2 hBX hbat hlB hl9
        go_wp2_with (go_at_call 73; refine (giveUp_any _ _).mono ?_; rintro e w2 ⟨rfl, rfl⟩)
        exact ⟨rfl, .inl ⟨by unfold bZ; rw [HBA.out]; rfl, HB2.out, by unfold bOk; rw [HQ.out]; exact Bool.and_false _⟩⟩
      · have HQ : Hid (secEq (marS l) s = true) := hse
        clear h3 h5 hO hp hO2 hB2 hBX hbat hlB hl9
        go_wp2_with fail
        go_ret
        exact .inr ⟨g, rfl, HO2.out, HB2.out, by unfold bOk; rw [HQ.out, HBA.out]; rfl⟩
    · intro a9 ch w' hd hz
      exact hz.elim
end Go.Proofs.Ytpckdkgbeemalaa
namespace Go.Proofs.Ytpckdkgbeemalaa
open Go.RowKit

/-! mark.State -/
theorem wW_st (s : Sc) (j : List Sc) (k : Nat) (hk : k < 8) : wW s j k = stW s j k := by
  unfold wW stW numI
  rw [if_pos (by rw [inB_iff]; omega), Int.toNat_natCast]; rfl
theorem bOk_st (n : Int) (s : Sc) (j : List Sc) : bOk n s (wL s j (s 2).toNat (s 2).toNat) = bOk n s (stA s j) := by
  by_cases h : (s 2).toNat ≤ 8
  · have e : wL s j (s 2).toNat (s 2).toNat = stA s j := by
      unfold stA stN8
      rw [Nat.min_eq_left h]
      apply List.ext_getElem?
      intro k
      by_cases hk : k < (s 2).toNat
      · rw [wL_get _ _ _ _ _ hk, if_pos hk, stL_get _ _ _ _ hk, wW_st _ _ _ (by omega)]
      · rw [List.getElem?_eq_none (by rw [wL_len]; omega), List.getElem?_eq_none (by rw [stL_len]; omega)]
    rw [e]
  · have e1 : bOk n s (wL s j (s 2).toNat (s 2).toNat) = false := by
      unfold bOk batB lenB
      rw [wL_len, decide_eq_false (by omega)]; rfl
    rw [e1]
    cases hq : bOk n s (stA s j)
    · rfl
    · exfalso
      unfold bOk at hq
      rw [Bool.and_eq_true, secEq_iff] at hq
      have h2 := hq.2 2 (by omega)
      rw [marS_2] at h2
      have h8 : (stA s j).length = 8 := by unfold stA stN8; rw [stL_len]; omega
      rw [h8] at h2
      rw [← h2] at h
      exact h (by decide)
theorem bOk_len {n : Int} {s : Sc} {j : List Sc} (h : bOk n s (stA s j) = true) : wL s j (s 2).toNat (s 2).toNat = stA s j := by
  have h8 : (s 2).toNat ≤ 8 := by
    rw [← bOk_st] at h
    unfold bOk batB lenB at h
    rw [wL_len] at h
    simp only [Bool.and_eq_true, decide_eq_true_eq] at h
    omega
  unfold stA stN8
  rw [Nat.min_eq_left h8]
  apply List.ext_getElem?
  intro k
  by_cases hk : k < (s 2).toNat
  · rw [wL_get _ _ _ _ _ hk, if_pos hk, stL_get _ _ _ _ hk, wW_st _ _ _ (by omega)]
  · rw [List.getElem?_eq_none (by rw [wL_len]; omega), List.getElem?_eq_none (by rw [stL_len]; omega)]
theorem st1_size (gn gs gt gj gl : Nat) (n : Int) (W : World) (hn : ¬ (64 ≤ n ∧ n ≤ 1024)) (h0 : -9223372036854775808 ≤ n) (h1 : n ≤ 9223372036854775807) (ha : RowC W gn #[.int .i64 n]) :
    Calls Try.prog 54 #[.pointer (some ⟨gn, 0, none⟩), .pointer (some ⟨gs, 0, none⟩), .pointer (some ⟨gt, 0, none⟩), .pointer (some ⟨gj, 0, none⟩), .pointer (some ⟨gl, 0, none⟩)] W fun r w1 => r = .panicked (gup 22) ∧ Below W.heap.size W w1 := by
  have c0 : W.cell? ⟨gn, 0, none⟩ = some (.int .i64 n) := ha.cell 0
  have hD := disk_no n W hn h0 h1
  clear ha hn h0 h1
  go_enter Try.func54, Try.ntmps54
  go_wp2_with (go_at_call 55; refine hD.mono ?_; rintro e w1 ⟨rfl, hB⟩)
  exact ⟨rfl, rfl, hB⟩
set_option linter.unusedSimpArgs false in
theorem st1_zero (s : Sc) (gn gs gt gj gl : Nat) (n : Int) (W : World) (h0 : 64 ≤ n) (h1 : n ≤ 1024) (hz : secEq s secZ = true) (ha : RowC W gn #[.int .i64 n]) (hs : ScR W gs s) (ht : RowC W gt #[.int .i64 3]) :
    Calls Try.prog 54 #[.pointer (some ⟨gn, 0, none⟩), .pointer (some ⟨gs, 0, none⟩), .pointer (some ⟨gt, 0, none⟩), .pointer (some ⟨gj, 0, none⟩), .pointer (some ⟨gl, 0, none⟩)] W fun r w1 => r = .returned (.tuple #[]) ∧ ∃ w0, Below W.heap.size W w0 ∧ w1 = w0.setCell ⟨gt, 0, none⟩ (.int .i64 1) := by
  have c0 : W.cell? ⟨gn, 0, none⟩ = some (.int .i64 n) := ha.cell 0
  have hD := disk_yes n W h0 h1
  have hZ := fun w => zero_any s w
  simp only [hz] at hZ
  clear ha h0 h1 hz
  go_enter Try.func54, Try.ntmps54
  go_upto_region 1 with (go_at_call 55; refine hD.mono ?_; rintro e w1 ⟨rfl, hB⟩)
  have hA := below_alloc w1 (.cells (gA (geoF n)) 106)
  have hs1 := (hs.kept hB).kept hA
  have ht1 := (ht.kept hB).kept hA
  have hB1 := hB.trans (hA.mono hB.size)
  clear hD c0 hs ht hB hA
  generalize w1.alloc (.cells (gA (geoF n)) 106) = Y at hs1 ht1 hB1 ⊢
  obtain ⟨k1, k2⟩ := hs1
  have hZ1 := hZ Y
  go_wp2_with fail
  go_at_call 56
  refine hZ1.mono ?_
  rintro e w2 ⟨rfl, hb2⟩
  have ht2 := ht1.kept hb2
  have HB2 : Hid (Below W.heap.size W w2) := hB1.trans (hb2.mono hB1.size)
  have ct : w2.cell? ⟨gt, 0, none⟩ = some (.int .i64 3) := ht2.cell 0
  have ft := ht2.frozen 0
  clear hZ hZ1 hb2 hB1 ht1 ht2 k1 k2
  go_wp2_with fail
  first | go_end0 | refine bodyPost_ret (results_none rfl _ _ _) rfl ?_
  exact ⟨rfl, w2, HB2.out, rfl⟩
set_option linter.unusedSimpArgs false in
theorem st1_rest (s : Sc) (j : List Sc) (x : Option Addr) (L c gn gs gt gj gl : Nat) (n : Int) (W : World) (hL : j.length = L) (h63 : L ≤ 2199023255552) (hj : IsK secE W (.slice x L c) j) (h0 : 64 ≤ n) (h1 : n ≤ 1024) (hz : secEq s secZ = false)
    (ha : RowC W gn #[.int .i64 n]) (hs : ScR W gs s) (ht : RowC W gt #[.int .i64 3]) (hjr : RowC W gj #[.slice x L c]) (hl : RowC W gl #[.slice none 0 0]) (hne : gl ≠ gt) :
    Calls Try.prog 54 #[.pointer (some ⟨gn, 0, none⟩), .pointer (some ⟨gs, 0, none⟩), .pointer (some ⟨gt, 0, none⟩), .pointer (some ⟨gj, 0, none⟩), .pointer (some ⟨gl, 0, none⟩)] W fun r w1 =>
      (r = .panicked (gup (bZ n (wL s j (s 2).toNat (s 2).toNat))) ∧ Below W.heap.size W w1 ∧ bOk n s (stA s j) = false) ∨
      (r = .returned (.tuple #[]) ∧ bOk n s (stA s j) = true ∧ ∃ w0 g, Below W.heap.size W w0 ∧ OwnK wrE w0 W.heap.size (.slice (some ⟨g, 0, none⟩) (s 2).toNat (s 2).toNat) (stA s j) ∧
        w1 = (w0.setCell ⟨gl, 0, none⟩ (.slice (some ⟨g, 0, none⟩) (s 2).toNat (s 2).toNat)).setCell ⟨gt, 0, none⟩ (.int .i64 2)) := by
  have c0 : W.cell? ⟨gn, 0, none⟩ = some (.int .i64 n) := ha.cell 0
  have hD := disk_yes n W h0 h1
  have hZ := fun w => zero_any s w
  have hf := geoF_0 h0 h1
  have hBa := fun Y (h : IsK secE Y (.slice x L c) j) => batchOf_any s j x L c (geoF n) Y hL h63 h (by rw [hf]; exact h1)
  simp only [hz] at hZ
  simp only [hf] at hBa
  obtain ⟨m, hm⟩ : ∃ m, (s 2).toNat = m := ⟨_, rfl⟩
  have HOK : Hid (bOk n s (wL s j (s 2).toNat (s 2).toNat) = bOk n s (stA s j)) := bOk_st n s j
  have HLN : Hid (bOk n s (stA s j) = true → wL s j (s 2).toNat (s 2).toNat = stA s j) := bOk_len
  rw [hm] at HOK HLN
  simp only [hm] at hBa ⊢
  clear ha h0 h1 hz hm hf
  generalize geoF n = f at *
  go_enter Try.func54, Try.ntmps54
  go_upto_region 1 with (go_at_call 55; refine hD.mono ?_; rintro e w1 ⟨rfl, hB⟩)
  have hA := below_alloc w1 (.cells (gA f) 106)
  have hC := RowC.new w1 (gA f) 106
  have hs1 := (hs.kept hB).kept hA
  have ht1 := (ht.kept hB).kept hA
  have hj1 := (hjr.kept hB).kept hA
  have hl1 := (hl.kept hB).kept hA
  have hB1 := hB.trans (hA.mono hB.size)
  clear hD c0 hs ht hjr hl hB hA
  obtain ⟨g5, hg5⟩ : ∃ g, w1.heap.size = g := ⟨_, rfl⟩
  rw [hg5] at hC
  simp only [hg5]
  clear hg5
  generalize w1.alloc (.cells (gA f) 106) = Y at hs1 ht1 hj1 hl1 hB1 hC ⊢
  have HS1 : Hid (ScR Y gs s) := hs1
  obtain ⟨k1, k2⟩ := hs1
  have hZ1 := hZ Y
  go_wp2_with fail
  go_at_call 56
  refine hZ1.mono ?_
  rintro e w2 ⟨rfl, hb2⟩
  have hs2 := HS1.out.kept hb2
  have ht2 := ht1.kept hb2
  have hj2 := hj1.kept hb2
  have hl2 := hl1.kept hb2
  have hC2 := hC.kept hb2
  have hB2 := hB1.trans (hb2.mono hB1.size)
  have cj : w2.cell? ⟨gj, 0, none⟩ = some (.slice x L c) := hj2.cell 0
  have hBA := hBa w2 (hj.kept hB2)
  obtain ⟨k3, k4⟩ := hs2
  obtain ⟨k5, k6⟩ := hC2
  clear hZ hZ1 hb2 hB1 ht1 hj1 hj2 hl1 k1 k2 hC HS1 hBa
  go_wp2_with fail
  go_at_call 57
  refine hBA.mono ?_
  rintro e w3 (⟨rfl, hb3, hq⟩ | ⟨g, rfl, hO, hb3, hq⟩)
  · have HB3 : Hid (Below W.heap.size W w3) := hB2.trans (hb3.mono hB2.size)
    have HQ : Hid (bOk n s (wL s j m m) = false) := hq
    clear hBA hb3 hB2 ht2 hl2 cj k3 k4 k5 k6 hq
    exact ⟨rfl, .inl ⟨rfl, HB3.out, HOK.out ▸ HQ.out⟩⟩
  · have HQ : Hid (bOk n s (stA s j) = true) := by show _ = _; rw [← HOK.out]; exact hq
    have ht3 := ht2.kept hb3
    have hl3 := hl2.kept hb3
    have cl : w3.cell? ⟨gl, 0, none⟩ = some (.slice none 0 0) := hl3.cell 0
    have fl := hl3.frozen 0
    have ht4 := ht3.set_ne 0 (.slice (some ⟨g, 0, none⟩) m m) hne
    have ct : (w3.setCell ⟨gl, 0, none⟩ (.slice (some ⟨g, 0, none⟩) m m)).cell? ⟨gt, 0, none⟩ = some (.int .i64 3) := ht4.cell 0
    have ft := ht4.frozen 0
    have HB3 : Hid (Below W.heap.size W w3) := hB2.trans (hb3.mono hB2.size)
    rw [HLN.out HQ.out] at hO
    have HO : Hid (OwnK wrE w3 W.heap.size (.slice (some ⟨g, 0, none⟩) m m) (stA s j)) := hO.le hB2.size
    clear hBA hb3 hB2 ht2 hl2 cj k3 k4 k5 k6 hq hO ht3 hl3 ht4
    go_wp2_with fail
    go_end0
    exact .inr ⟨rfl, HQ.out, w3, g, HB3.out, HO.out, rfl⟩
end Go.Proofs.Ytpckdkgbeemalaa
namespace Go.Proofs.Ytpckdkgbeemalaa
open Go.RowKit

/-! mark.State, whole -/
theorem OwnK.other9 {α : Type} {E : EK α} {w w' : World} {B : Nat} {v : Value} {ds : List α} (h : OwnK E w B v ds) (hl : ∀ g, v.ownBlock = some g → w'.heap[g]? = w.heap[g]?) : OwnK E w' B v ds := by
  obtain ⟨h1, h2⟩ := h
  refine ⟨h1, ?_⟩
  rcases h2 with hn | ⟨g, cap, cur, rfl, hb', hg, r⟩
  · exact .inl hn
  · exact .inr ⟨g, cap, cur, rfl, hb', (hl g rfl).trans hg, r⟩
theorem OwnK.setne9 {α : Type} {E : EK α} {w : World} {B g n c q : Nat} {ds : List α} (h : OwnK E w B (.slice (some ⟨g, 0, none⟩) n c) ds) (v : Value) (hq : q ≠ g) : OwnK E (w.setCell ⟨q, 0, none⟩ v) B (.slice (some ⟨g, 0, none⟩) n c) ds :=
  h.other9 fun k hk => by
    have : k = g := by simp [Value.ownBlock] at hk; omega
    subst this
    exact heap_setCell_ne w q k 0 v hq
theorem mSt_no {s : Sc} {j : List Sc} {n : Int} (h : mComm s j n = false) : mStL s j n = [] := by unfold mStL; rw [h]; rfl
theorem tstate_any (s : Sc) (j : List Sc) (x : Option Addr) (L c gn gs gt gj gl B : Nat) (n : Int) (w X : World) (hL : j.length = L) (h63 : L ≤ 2199023255552) (hj : IsK secE w (.slice x L c) j) (h0 : -9223372036854775808 ≤ n) (h1 : n ≤ 9223372036854775807)
    (hBB : B = w.heap.size) (hB : Below B w X) (ha : RowC X gn #[.int .i64 n]) (hs : ScR X gs s) (ht : RowC X gt #[.int .i64 3]) (hjr : RowC X gj #[.slice x L c]) (hl : RowC X gl #[.slice none 0 0]) (hne : gl ≠ gt) (hgt : B ≤ gt) (hgl : B ≤ gl) :
    Calls Try.prog 53 #[.func (.func 54) #[] #[.pointer (some ⟨gn, 0, none⟩), .pointer (some ⟨gs, 0, none⟩), .pointer (some ⟨gt, 0, none⟩), .pointer (some ⟨gj, 0, none⟩), .pointer (some ⟨gl, 0, none⟩)]] X fun r w' =>
      (∃ e, r = .returned (.int .i64 e)) ∧ RowC w' gt #[.int .i64 (mStK s j n)] ∧ ∃ y c', RowC w' gl #[.slice y (mStL s j n).length c'] ∧ OwnK wrE w' B (.slice y (mStL s j n).length c') (mStL s j n) ∧ Below B w w' := by
  subst hBB
  obtain ⟨X1, hX1⟩ : ∃ q, X.alloc (.cells #[.int .i64 0] 29) = q := ⟨_, rfl⟩
  have hA := below_alloc X (.cells #[.int .i64 0] 29)
  have hC := RowC.new X #[.int .i64 0] 29
  have hsz : X1.heap.size = X.heap.size + 1 := by rw [← hX1]; simp
  rw [hX1] at hA hC
  have htX := ht.lt
  have hlX := hl.lt
  have hB1 : Below w.heap.size w X1 := hB.trans (hA.mono hB.size)
  have hX := hB.size
  -- where nothing was laid
  have none9 : ∀ (z : Int) (w1 : World), mStK s j n = 3 → mComm s j n = false → Below X1.heap.size X1 w1 →
      RowC (w1.setCell ⟨X.heap.size, 0, none⟩ (.int .i64 z)) gt #[.int .i64 (mStK s j n)] ∧ ∃ y c', RowC (w1.setCell ⟨X.heap.size, 0, none⟩ (.int .i64 z)) gl #[.slice y (mStL s j n).length c'] ∧ OwnK wrE (w1.setCell ⟨X.heap.size, 0, none⟩ (.int .i64 z)) w.heap.size (.slice y (mStL s j n).length c') (mStL s j n) ∧ Below w.heap.size w (w1.setCell ⟨X.heap.size, 0, none⟩ (.int .i64 z)) := by
    intro z w1 hk hcm hw
    rw [hk, mSt_no hcm]
    exact ⟨((ht.kept hA).kept hw).set_ne 0 _ (by omega), none, 0, ((hl.kept hA).kept hw).set_ne 0 _ (by omega), OwnK.nil _ _ _, (hB1.trans (hw.mono (by omega))).setCell (p := ⟨X.heap.size, 0, none⟩) hX _⟩
  by_cases h : 64 ≤ n ∧ n ≤ 1024
  · have hg : geoOk n = true := by unfold geoOk; simp [h]
    cases hz : secEq s secZ
    · have hmc : mComm s j n = bOk n s (stA s j) := by unfold mComm bOk; rw [hg, hz]; rfl
      cases hq : bOk n s (stA s j)
      · rw [hq] at hmc
        have := trying_state_no ⟨gn, 0, none⟩ ⟨gs, 0, none⟩ ⟨gt, 0, none⟩ ⟨gj, 0, none⟩ ⟨gl, 0, none⟩ (bZ n (wL s j (s 2).toNat (s 2).toNat)) X (fun w1 => Below X1.heap.size X1 w1) (by
          rw [hX1]
          refine (st1_rest s j x L c gn gs gt gj gl n X1 hL h63 (hj.kept hB1) h.1 h.2 hz (ha.kept hA) (hs.kept hA) (ht.kept hA) (hjr.kept hA) (hl.kept hA) hne).mono ?_
          rintro r w1 (⟨rfl, hw, -⟩ | ⟨-, hq', -⟩)
          · exact ⟨rfl, hw, hC.kept hw⟩
          · rw [hq] at hq'; cases hq')
        refine this.mono ?_
        rintro r w' ⟨rfl, w1, hw, rfl⟩
        exact ⟨⟨_, rfl⟩, none9 _ w1 (by unfold mStK; rw [hg, hz, hmc]; rfl) hmc hw⟩
      · rw [hq] at hmc
        have hlen : (s 2).toNat = (stA s j).length := by
          have := congrArg List.length (bOk_len hq)
          rwa [wL_len] at this
        have hgb : ∀ {w0 : World} {g m : Nat} {ls : List Wr}, OwnK wrE w0 X1.heap.size (.slice (some ⟨g, 0, none⟩) m m) ls → X1.heap.size ≤ g := fun h => h.ge
        have := trying_state_yes ⟨gn, 0, none⟩ ⟨gs, 0, none⟩ ⟨gt, 0, none⟩ ⟨gj, 0, none⟩ ⟨gl, 0, none⟩ X (fun w1 => ∃ w0 g, Below X1.heap.size X1 w0 ∧ OwnK wrE w0 X1.heap.size (.slice (some ⟨g, 0, none⟩) (s 2).toNat (s 2).toNat) (stA s j) ∧
            w1 = (w0.setCell ⟨gl, 0, none⟩ (.slice (some ⟨g, 0, none⟩) (s 2).toNat (s 2).toNat)).setCell ⟨gt, 0, none⟩ (.int .i64 2)) (by
          rw [hX1]
          refine (st1_rest s j x L c gn gs gt gj gl n X1 hL h63 (hj.kept hB1) h.1 h.2 hz (ha.kept hA) (hs.kept hA) (ht.kept hA) (hjr.kept hA) (hl.kept hA) hne).mono ?_
          rintro r w1 (⟨-, -, hq'⟩ | ⟨rfl, -, w0, g, hw, hO, rfl⟩)
          · rw [hq] at hq'; cases hq'
          · exact ⟨rfl, ⟨w0, g, hw, hO, rfl⟩, ((hC.kept hw).set_ne 0 _ (by omega)).set_ne 0 _ (by omega)⟩)
        refine this.mono ?_
        rintro r w' ⟨rfl, w1, ⟨w0, g, hw, hO, rfl⟩, rfl⟩
        have hgx := hgb hO
        have eL : mStL s j n = stA s j := by unfold mStL; rw [hmc]; rfl
        have eK : mStK s j n = 2 := by unfold mStK; rw [hg, hz, hmc]; rfl
        rw [eL, eK, ← hlen]
        refine ⟨⟨_, rfl⟩, ?_, some ⟨g, 0, none⟩, (s 2).toNat, ?_, ?_, ?_⟩
        · exact ((((ht.kept hA).kept hw).set_ne 0 _ hne).set 0 _).set_ne 0 _ (by omega)
        · exact ((((hl.kept hA).kept hw).set 0 _).set_ne 0 _ (fun e => hne e.symm)).set_ne 0 _ (by omega)
        · exact (((hO.le hB1.size).setne9 _ (by omega)).setne9 _ (by omega)).setne9 _ (by omega)
        · exact (((hB1.trans (hw.mono (by omega))).setCell (p := ⟨gl, 0, none⟩) hgl _).setCell (p := ⟨gt, 0, none⟩) hgt _).setCell (p := ⟨X.heap.size, 0, none⟩) hX _
    · have hmc : mComm s j n = false := by unfold mComm; rw [hg, hz]; rfl
      have := trying_state_yes ⟨gn, 0, none⟩ ⟨gs, 0, none⟩ ⟨gt, 0, none⟩ ⟨gj, 0, none⟩ ⟨gl, 0, none⟩ X (fun w1 => ∃ w0, Below X1.heap.size X1 w0 ∧ w1 = w0.setCell ⟨gt, 0, none⟩ (.int .i64 1)) (by
        rw [hX1]
        refine (st1_zero s gn gs gt gj gl n X1 h.1 h.2 hz (ha.kept hA) (hs.kept hA) (ht.kept hA)).mono ?_
        rintro r w1 ⟨rfl, w0, hw, rfl⟩
        exact ⟨rfl, ⟨w0, hw, rfl⟩, (hC.kept hw).set_ne 0 _ (by omega)⟩)
      refine this.mono ?_
      rintro r w' ⟨rfl, w1, ⟨w0, hw, rfl⟩, rfl⟩
      have eK : mStK s j n = 1 := by unfold mStK; rw [hg, hz]; rfl
      rw [eK, mSt_no hmc]
      exact ⟨⟨_, rfl⟩, (((ht.kept hA).kept hw).set 0 _).set_ne 0 _ (by omega), none, 0, (((hl.kept hA).kept hw).set_ne 0 _ (fun e => hne e.symm)).set_ne 0 _ (by omega), OwnK.nil _ _ _,
        ((hB1.trans (hw.mono (by omega))).setCell (p := ⟨gt, 0, none⟩) hgt _).setCell (p := ⟨X.heap.size, 0, none⟩) hX _⟩
  · have hg : geoOk n = false := by
      unfold geoOk
      rw [Bool.and_eq_false_iff, decide_eq_false_iff_not, decide_eq_false_iff_not]
      omega
    have hmc : mComm s j n = false := by unfold mComm; rw [hg]; rfl
    have := trying_state_no ⟨gn, 0, none⟩ ⟨gs, 0, none⟩ ⟨gt, 0, none⟩ ⟨gj, 0, none⟩ ⟨gl, 0, none⟩ 22 X (fun w1 => Below X1.heap.size X1 w1) (by
      rw [hX1]
      refine (st1_size gn gs gt gj gl n X1 h h0 h1 (ha.kept hA)).mono ?_
      rintro r w1 ⟨rfl, hw⟩
      exact ⟨rfl, hw, hC.kept hw⟩)
    refine this.mono ?_
    rintro r w' ⟨rfl, w1, hw, rfl⟩
    exact ⟨⟨_, rfl⟩, none9 _ w1 (by unfold mStK; rw [hg]; rfl) hmc hw⟩
set_option linter.unusedSimpArgs false in
theorem mStOk : MStOk := by
  intro s j x L c n w hL h40 hj hn
  obtain ⟨K9, hK⟩ : ∃ k, mStK s j n = k := ⟨_, rfl⟩
  obtain ⟨l9, hl9⟩ : ∃ l, mStL s j n = l := ⟨_, rfl⟩
  have hT := fun gn gs gt gj gl B X => tstate_any s j x L c gn gs gt gj gl B n w X hL h40 hj hn.1 hn.2
  simp only [hK, hl9] at hT ⊢
  clear hK hl9 hj hn
  have hmf : ∀ (fn : Fn) (first cap : Array Value) (w : World), (Instr.makeFunc fn first cap).run Try.prog w = .ok (.func fn first cap) w := fun _ _ _ _ => rfl
  go_enter Try.func27, Try.ntmps27
  go_upto_region 3 with fail
  obtain ⟨X, hX⟩ : ∃ q, (((((w.alloc (.cells (secA s) 44)).alloc (.cells #[.slice x L c] 32)).alloc (.cells #[.int .i64 n] 3)).alloc (.cells #[.int .i64 3] 3)).alloc (.cells #[.slice none 0 0] 23)) = q := ⟨_, rfl⟩
  have hB : Below w.heap.size w X := by rw [← hX]; exact ((((below_alloc w _).alloc (by simp) _).alloc (by simp; omega) _).alloc (by simp; omega) _).alloc (by simp; omega) _
  have hs : ScR X w.heap.size s := by rw [← hX]; exact ((((ScR.new w s _).kept (below_alloc _ _)).kept (below_alloc _ _)).kept (below_alloc _ _)).kept (below_alloc _ _)
  have hjr : RowC X (w.heap.size + 1) #[.slice x L c] := by
    have := (((RowC.new (w.alloc (.cells (secA s) 44)) #[.slice x L c] 32).kept (below_alloc _ (.cells #[.int .i64 n] 3))).kept (below_alloc _ (.cells #[.int .i64 3] 3))).kept (below_alloc _ (.cells #[.slice none 0 0] 23))
    rw [hX, World.size_alloc] at this; exact this
  have hnr : RowC X (w.heap.size + 1 + 1) #[.int .i64 n] := by
    have := ((RowC.new ((w.alloc (.cells (secA s) 44)).alloc (.cells #[.slice x L c] 32)) #[.int .i64 n] 3).kept (below_alloc _ (.cells #[.int .i64 3] 3))).kept (below_alloc _ (.cells #[.slice none 0 0] 23))
    rw [hX, World.size_alloc, World.size_alloc] at this; exact this
  have htr : RowC X (w.heap.size + 1 + 1 + 1) #[.int .i64 3] := by
    have := (RowC.new (((w.alloc (.cells (secA s) 44)).alloc (.cells #[.slice x L c] 32)).alloc (.cells #[.int .i64 n] 3)) #[.int .i64 3] 3).kept (below_alloc _ (.cells #[.slice none 0 0] 23))
    rw [hX, World.size_alloc, World.size_alloc, World.size_alloc] at this; exact this
  have hlr : RowC X (w.heap.size + 1 + 1 + 1 + 1) #[.slice none 0 0] := by
    have := RowC.new ((((w.alloc (.cells (secA s) 44)).alloc (.cells #[.slice x L c] 32)).alloc (.cells #[.int .i64 n] 3)).alloc (.cells #[.int .i64 3] 3)) #[.slice none 0 0] 23
    rw [hX, World.size_alloc, World.size_alloc, World.size_alloc, World.size_alloc] at this; exact this
  have hC := hT (w.heap.size + 1 + 1) w.heap.size (w.heap.size + 1 + 1 + 1) (w.heap.size + 1) (w.heap.size + 1 + 1 + 1 + 1) w.heap.size X rfl hB hnr hs htr hjr hlr (by omega) (by omega) (by omega)
  rw [hX]
  clear hT hB hs hjr hnr htr hlr hX
  obtain ⟨g9, hg9⟩ : ∃ g, w.heap.size + 1 + 1 + 1 + 1 = g := ⟨_, rfl⟩
  obtain ⟨g8, hg8⟩ : ∃ g, w.heap.size + 1 + 1 + 1 = g := ⟨_, rfl⟩
  obtain ⟨g5, hg5⟩ : ∃ g, w.heap.size + 1 + 1 = g := ⟨_, rfl⟩
  obtain ⟨g4, hg4⟩ : ∃ g, w.heap.size + 1 = g := ⟨_, rfl⟩
  obtain ⟨g3, hg3⟩ : ∃ g, w.heap.size = g := ⟨_, rfl⟩
  rw [hg9, hg8, hg5, hg4] at hC
  simp only [hg9]
  simp only [hg8]
  simp only [hg5]
  simp only [hg4]
  simp only [hg3] at hC ⊢
  have HG : Hid (w.heap.size = g3) := hg3
  clear hg9 hg8 hg5 hg4 hg3
  go_upto_region 4 with (go_at_call 53; refine hC.mono ?_; rintro e w1 ⟨⟨z, rfl⟩, ht, y, c', hl, hO, hB⟩)
  have c8 : w1.cell? ⟨g8, 0, none⟩ = some (.int .i64 K9) := ht.cell 0
  have c9 : w1.cell? ⟨g9, 0, none⟩ = some (.slice y l9.length c') := hl.cell 0
  have HO : Hid (OwnK wrE w1 g3 (.slice y l9.length c') l9) := hO
  have HB : Hid (Below g3 w w1) := hB
  clear hC ht hl hO hB
  obtain ⟨k9, hk9⟩ : ∃ k, l9.length = k := ⟨_, rfl⟩
  rw [hk9] at c9
  have HK : Hid (l9.length = k9) := hk9
  clear hk9
  go_region
  go_wp2
  refine tmp2_bodyPost9 6 7 rfl rfl ⟨y, c', ?_, ?_, ?_⟩
  · rw [HK.out]; rfl
  · rw [HG.out]; exact HO.out
  · rw [HG.out]; exact HB.out.drew
end Go.Proofs.Ytpckdkgbeemalaa
