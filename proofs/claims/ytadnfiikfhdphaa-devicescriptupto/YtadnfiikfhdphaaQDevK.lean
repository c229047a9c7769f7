import Derived.Test.YtadnfiikfhdphaaQDevA
namespace Go.Proofs.Ytadnfiikfhdphaa
open Go.RowKit

/-! assaylaw05's known -/
theorem firstS_nil (k : Nat) : firstS [] k = secZ := rfl
theorem fillZ_get (n k : Nat) (h : k < n) : (fillL n [])[k]? = some secZ := by
  unfold fillL
  rw [List.getElem?_map, List.getElem?_range h]; rfl
/-- A slice whose sector k is told; a place that holds a sector. -/
def AtS (n k : Nat) (s : Sc) (v : Value) (x : World) : Prop := ∃ b o c, v = .slice (some ⟨b, o, none⟩) n c ∧ b < x.heap.size ∧ x.rangeAt b (o + k * 64) (secE.enc s)
def PtS (s : Sc) (v : Value) (x : World) : Prop := ∃ b o, v = .pointer (some ⟨b, o, none⟩) ∧ b < x.heap.size ∧ x.rangeAt b o (secE.enc s)
theorem AtS.kept {n k : Nat} {s : Sc} {v : Value} {x x1 : World} (h : AtS n k s v x) (hb : Below x.heap.size x x1) : AtS n k s v x1 := by
  obtain ⟨b, o, c, h1, h2, h3⟩ := h
  exact ⟨b, o, c, h1, Nat.lt_of_lt_of_le h2 hb.size, range_later h3 hb⟩
theorem PtS.kept {s : Sc} {v : Value} {x x1 : World} (h : PtS s v x) (hb : Below x.heap.size x x1) : PtS s v x1 := by
  obtain ⟨b, o, h1, h2, h3⟩ := h
  exact ⟨b, o, h1, Nat.lt_of_lt_of_le h2 hb.size, range_later h3 hb⟩
section
variable {DevIs : World → Value → DSt → List Nat → List Nat → Prop}
set_option linter.unusedSimpArgs false in
set_option maxHeartbeats 1600000 in
set_option maxRecDepth 100000 in
theorem knownDev (O : DevOk DevIs) (Z : DevNil) (w : World) : Calls Try.prog 7 #[] w fun e w' => e = .returned (.bool true) ∧ Below w.heap.size w w' := by
  have hF : Calls Try.prog 4 #[.int .i64 64, .slice none 0 0] w fun e w' => ∃ y c', e = .returned (.slice y 64 c') ∧ OwnK secE w' w.heap.size (.slice y 64 c') (fillL 64 []) ∧ Below w.heap.size w w' := fill_any 64 (by omega) none 0 0 [] w rfl (.inl ⟨rfl, rfl⟩)
  obtain ⟨st, hst⟩ : ∃ st, newS (fillL 64 []) = st := ⟨_, rfl⟩
  have L0 : Hid (st.last.length = 64) := by show _ = _; rw [← hst]; exact fillL_len _ _
  have P0 : Hid (st.pend.length = 0 ∧ st.wt = 0 ∧ st.rd = 0 ∧ st.fl = 0) := by show _ ∧ _; rw [← hst]; exact ⟨rfl, rfl, rfl, rfl⟩
  have W1 : Hid (wrRes st 3 = 0) := by show _ = _; rw [← hst]; rfl
  obtain ⟨st1, hst1⟩ : ∃ s, wrSt st 3 sec9 = s := ⟨_, rfl⟩
  have e1 : st1 = { last := fillL 64 [], pend := [(3, sec9)], left := -1, down := false, rd := 0, wt := 1, fl := 0 } := by rw [← hst1, ← hst]; rfl
  have P1 : Hid (st1.pend.length = 1 ∧ st1.rd = 0 ∧ st1.last.length = 64) := by show _ ∧ _; rw [e1]; exact ⟨rfl, rfl, fillL_len _ _⟩
  have Q1 : Hid (st1.last[3]? = some secZ) := by show _ = _; rw [e1]; exact fillZ_get 64 3 (by omega)
  have R1 : Hid (rdRes st1 3 = 0) := by show _ = _; rw [e1]; rfl
  have S1 : Hid (rdSec st1 3 = sec9) := by show _ = _; rw [e1]; rfl
  obtain ⟨st2, hst2⟩ : ∃ s, rdSt st1 3 = s := ⟨_, rfl⟩
  have e2 : st2 = { last := fillL 64 [], pend := [(3, sec9)], left := -1, down := false, rd := 1, wt := 1, fl := 0 } := by rw [← hst2, e1]; rfl
  have P2 : Hid (st2.pend.length = 1 ∧ st2.fl = 0) := by show _ ∧ _; rw [e2]; exact ⟨rfl, rfl⟩
  have R2 : Hid (flRes st2 = 0) := by show _ = _; rw [e2]; rfl
  obtain ⟨st3, hst3⟩ : ∃ s, flSt st2 = s := ⟨_, rfl⟩
  have e3 : st3 = { last := (fillL 64 []).set 3 sec9, pend := [], left := -1, down := false, rd := 1, wt := 1, fl := 1 } := by rw [← hst3, e2]; rfl
  have HL : Hid (st3.last.length = 64) := by show _ = _; rw [e3]; show ((fillL 64 []).set 3 sec9).length = 64; rw [List.length_set]; exact fillL_len _ _
  have H3 : Hid (st3.last[3]? = some sec9) := by show _ = _; rw [e3]; exact List.getElem?_set_self (by rw [fillL_len]; omega)
  have W3 : Hid (wrRes st3 64 = 20 ∧ st3.pend.length = 0 ∧ st3.wt = 1) := by show _ ∧ _; rw [e3]; exact ⟨rfl, rfl, rfl⟩
  clear e1 e2 e3
  have h99 : secEq sec9 sec9 = true := by decide
  have hZZ : secEq secZ secZ = true := by decide
  go_enter Try.func7, Try.ntmps7
  go_wp2_with fail
  refine hF.mono ?_
  rintro e w1 ⟨y, c, rfl, hO, hB1⟩
  clear hF
  have hN := O.made w1 y 64 c (fillL 64 []) (fillL_len _ _) (hO.isK secE_ok) (by omega) (by omega)
  rw [hst] at hN
  go_wp2_with fail
  refine hN.mono ?_
  rintro e w2 ⟨a, rfl, hD⟩
  replace hD := hD.since hB1 hB1.size
  clear hN hO hB1 hst
  have hC := hD.n O
  rw [L0.out] at hC
  go_wp2_with fail
  refine hC.mono ?_
  rintro e w3 ⟨rfl, hB⟩
  replace hD := hD.later O hB
  clear hC hB
  have hC := hD.write O 3 sec9 (by rw [P0.out.1]; omega) (by rw [P0.out.2.1]; omega) (by omega) (by omega)
  rw [W1.out, hst1] at hC
  go_wp2_with fail
  refine hC.mono ?_
  rintro e w4 ⟨rfl, hD, -⟩
  clear hC hst1
  have hC := hD.pending O (by rw [P1.out.1]; omega) 1 P1.out.1
  go_wp2_with fail
  refine hC.mono ?_
  rintro e w5 ⟨y5, c5, rfl, -, hB⟩
  replace hD := hD.later O hB
  clear hC hB
  have hC := hD.durable O 64 P1.out.2.2
  go_wp2_with fail
  refine hC.mono ?_
  rintro e w6 ⟨y6, c6, rfl, hO, hB⟩
  replace hD := hD.later O hB
  obtain ⟨b, o, rfl, hb, hr⟩ := (hO.isK secE_ok).at 3 secZ Q1.out
  obtain ⟨k1, k2⟩ := rg_of hr (secE_ok.len secZ)
  rw [secE_arr] at k2
  rw [secE_k] at k1 k2
  clear hC hB hO hb hr
  have hC := hD.read O 3 (by rw [P1.out.1]; omega) (by rw [P1.out.2.1]; omega) (by omega) (by omega)
  rw [R1.out, S1.out, hst2] at hC
  go_wp2_with fail
  refine hC.mono ?_
  rintro e w7 ⟨rfl, hD, -⟩
  clear hC hst2 k1 k2
  go_upto_region 5 with fail
  have hS := ScR.new w7 sec9 27
  replace hD := hD.add O (below_alloc w7 (.cells (secA sec9) 27)) w7.heap.size (Nat.le_refl _) (by simp)
  obtain ⟨g, hg⟩ : ∃ g, w7.heap.size = g := ⟨_, rfl⟩
  rw [hg] at hS hD
  simp only [hg]
  generalize w7.alloc (.cells (secA sec9) 27) = X7 at hS hD ⊢
  clear hg
  have hC := hD.flush O (by rw [P2.out.1]; omega) (by rw [P2.out.2]; omega)
  rw [R2.out, hst3] at hC
  go_wp2_with fail
  refine hC.mono ?_
  rintro e w8 ⟨rfl, hD', hH⟩
  clear hD
  replace hD := hD'
  replace hS := hS.held hH (by simp)
  clear hC hst3 hD' hH
  have hWx : ∀ x : World, DevAt DevIs w.heap.size w [g] x (.pointer (some a)) st3 → Calls Try.prog 16 #[.pointer (some a), .int .i64 64, .agg (secA sec9)] x fun e w' => e = .returned (.int .i64 20) ∧ Below x.heap.size x w' := fun x hx => by
    obtain ⟨F, R, h1, -⟩ := hx
    refine (O.write x _ st3 F R 64 sec9 h1 (by rw [W3.out.2.1]; omega) (by rw [W3.out.2.2]; omega) (by omega) (by omega)).mono ?_
    rintro e w' ⟨he, -, hb⟩
    exact ⟨by rw [he, W3.out.1], hb W3.out.1⟩
  go_upto_region 6 with fail
  refine wp_relies [Fx (.agg (secA sec9)), Fx (.agg (secA sec9)), Fx (.bool false), Fx (.bool false), Fx (.int .i64 0), Fx (.bool false), Fx (.bool false), Fx (.bool false), Fx (.int .i64 0), Fx (.bool false), Fx (.bool false), Fx (.bool false), Fx (.pointer (some a)), AtS 64 3 sec9, PtS sec9, Fx (.agg (secA sec9)), Fx (.agg (secA sec9)), Fx (.bool false), Fx (.bool false), Fx (.bool false), Fx (.pointer (some a)), Fx (.agg (secA sec9)), Fx (.int .i64 20), Fx (.bool false), Fx (.bool false)] (by kernel_rfl) (by kernel_rfl) ?_ ?_ ?_
  · repeat' (first | exact all_nil | apply all_cons)
    all_goals intro v y y' hv hb
    all_goals first | exact Fx_mono _ _ _ _ hv hb | exact AtS.kept hv hb | exact PtS.kept hv hb
  · refine ⟨?_, ?_, ?_, ?_, ?_, ?_, ?_, ?_, ?_, ?_, ?_, ?_, ?_, ?_, ?_, ?_, ?_, ?_, ?_, ?_, ?_, ?_, ?_, ?_, ?_, trivial⟩
    all_goals
      intro ρ x hp ρc ρg ρf ho hd
      have o1 : ρ (.tmp 1) = .pointer (some a) := ho 1 rfl
      have o3 : ρ (.tmp 3) = .pointer (some ⟨g, 0, none⟩) := ho 3 rfl
      have o4 : ρ (.tmp 4) = .int .i64 0 := ho 4 rfl
      have o5 : ρ (.tmp 5) = .int .i64 0 := ho 5 rfl
      clear ho
      obtain ⟨r1, q1⟩ := hS.kept hp
      have hDx := hD.later O hp
      simp only [depsR, depR, slotR, Fx, List.getElem?_cons_succ, List.getElem?_cons_zero, Region.binds, forall_const] at hd
      simp only [guardR]
      go_split_ands
    · go_simp
    · go_simp
    · have hq := h99
      go_simp
    · go_simp
    · refine ⟨fun _ => ?_, fun hy => absurd (by simp [yieldR, slotR, *]) hy⟩
      go_simp
    · refine ⟨fun _ => ?_, fun hy => absurd (by simp [yieldR, slotR, *]) hy⟩
      go_simp
    · go_simp
    · go_simp
    · refine ⟨fun _ => ?_, fun hy => absurd (by simp [yieldR, slotR, *]) hy⟩
      go_simp
    · refine ⟨fun _ => ?_, fun hy => absurd (by simp [yieldR, slotR, *]) hy⟩
      go_simp
    · go_simp
    · go_simp
    · refine ⟨fun _ => ?_, fun hy => absurd (by simp [yieldR, slotR, *]) hy⟩
      go_simp
    · refine ⟨fun _ => ?_, fun hy => absurd (by simp [yieldR, slotR, *]) hy⟩
      go_simp
      refine (hDx.durable O 64 HL.out).mono ?_
      rintro e x' ⟨y, c, rfl, hO, hb⟩
      obtain ⟨b, o, h1, h2, h3⟩ := (hO.isK secE_ok).at 3 sec9 H3.out
      exact ⟨_, rfl, ⟨b, o, c, by rw [h1], h2, h3⟩, hb⟩
    · refine ⟨fun _ => ?_, fun hy => absurd (by simp [yieldR, slotR, *]) hy⟩
      obtain ⟨b, o, c, h1, h2, h3⟩ := ‹AtS 64 3 sec9 (ρ (.tmp 68)) x›
      go_simp
      exact ⟨b, _, rfl, h2, h3⟩
    · refine ⟨fun _ => ?_, fun hy => absurd (by simp [yieldR, slotR, *]) hy⟩
      obtain ⟨b, o, h1, h2, h3⟩ := ‹PtS sec9 (ρ (.tmp 69)) x›
      obtain ⟨k1, k2⟩ := rg_of h3 (secE_ok.len sec9)
      rw [secE_arr] at k2
      rw [secE_k] at k1 k2
      go_simp
    · refine ⟨fun _ => ?_, fun hy => absurd (by simp [yieldR, slotR, *]) hy⟩
      go_simp
    · refine ⟨fun _ => ?_, fun hy => absurd (by simp [yieldR, slotR, *]) hy⟩
      have hq := h99
      go_simp
    · go_simp
    · go_simp
    · refine ⟨fun _ => ?_, fun hy => absurd (by simp [yieldR, slotR, *]) hy⟩
      go_simp
    · refine ⟨fun _ => ?_, fun hy => absurd (by simp [yieldR, slotR, *]) hy⟩
      go_simp
    · refine ⟨fun _ => ?_, fun hy => absurd (by simp [yieldR, slotR, *]) hy⟩
      go_simp
      refine (hWx x hDx).mono ?_
      rintro e x' ⟨rfl, hb⟩
      exact ⟨_, rfl, rfl, hb⟩
    · refine ⟨fun _ => ?_, fun hy => absurd (by simp [yieldR, slotR, *]) hy⟩
      go_simp
    · go_simp
  · intro vs x6 hp hw
    simp only [owed, Fx] at hw
    obtain ⟨e0, e1, e2, e3, e4, e5, e6, e7, e8, e9, e10, e11, e12, e13, e14, e15, e16, e17, e18, e19, e20, e21, e22, e23, e24, -⟩ := hw
    simp only [List.length_cons, List.length_nil, List.take_succ_cons, List.take_nil, List.drop_succ_cons, List.drop_nil, asg, List.cons_append, List.nil_append, e0, e1, e2, e3, e4, e5, e6, e7, e8, e9, e10, e11, e12, e15, e16, e17, e18, e19, e20, e21, e22, e23, e24]
    clear e0 e1 e2 e3 e4 e5 e6 e7 e8 e9 e10 e11 e12 e15 e16 e17 e18 e19 e20 e21 e22 e23 e24 e13 e14
    replace hS := hS.kept hp
    have hBB := (hD.later O hp).below
    clear hD hp hWx
    go_wp2_with fail
    refine (Z.read _ 0).mono ?_
    rintro e y1 ⟨⟨s0, rfl⟩, hB⟩
    replace hS := hS.kept hB
    replace hBB := hBB.trans (hB.mono hBB.size)
    clear hB
    go_upto_region 10 with fail
    replace hS := hS.kept (below_alloc y1 (.cells (secA s0) 27))
    replace hBB := hBB.alloc hBB.size (.cells (secA s0) 27)
    generalize y1.alloc (.cells (secA s0) 27) = Y1 at hS hBB ⊢
    go_wp2_with fail
    refine (Z.stop _ 0).mono ?_
    rintro e y2 ⟨rfl, hB⟩
    replace hS := hS.kept hB
    replace hBB := hBB.trans (hB.mono hBB.size)
    clear hB
    go_upto_region 11 with fail
    replace hS := hS.kept (below_alloc y2 (.cells #[.bool true] 4))
    replace hBB := hBB.alloc hBB.size (.cells #[.bool true] 4)
    go_wp2_with fail
    refine (Z.restart _ _ _ _).mono ?_
    rintro e y3 ⟨rfl, hB⟩
    replace hS := hS.kept hB
    replace hBB := hBB.trans (hB.mono hBB.size)
    clear hB
    go_wp2_with fail
    refine (Z.acts _).mono ?_
    rintro e y4 ⟨rfl, hB⟩
    replace hS := hS.kept hB
    replace hBB := hBB.trans (hB.mono hBB.size)
    clear hB
    go_wp2_with fail
    refine (Z.n _).mono ?_
    rintro e y5 ⟨rfl, hB⟩
    replace hS := hS.kept hB
    replace hBB := hBB.trans (hB.mono hBB.size)
    clear hB
    obtain ⟨r1, q1⟩ := id hS
    go_wp2_with fail
    refine (Z.write _ 0 sec9).mono ?_
    rintro e y6 ⟨rfl, hB⟩
    replace hS := hS.kept hB
    replace hBB := hBB.trans (hB.mono hBB.size)
    clear hB
    clear r1 q1
    go_wp2_with fail
    refine (Z.flush _).mono ?_
    rintro e y7 ⟨rfl, hB⟩
    replace hS := hS.kept hB
    replace hBB := hBB.trans (hB.mono hBB.size)
    clear hB
    go_wp2_with fail
    refine (Z.down _).mono ?_
    rintro e y8 ⟨rfl, hB⟩
    replace hS := hS.kept hB
    replace hBB := hBB.trans (hB.mono hBB.size)
    clear hB
    go_wp2_with fail
    refine (Z.sectors _).mono ?_
    rintro e y9 ⟨⟨u1, v1, rfl⟩, hB⟩
    replace hS := hS.kept hB
    replace hBB := hBB.trans (hB.mono hBB.size)
    clear hB
    go_wp2_with fail
    refine (Z.durable _).mono ?_
    rintro e z1 ⟨⟨u2, v2, rfl⟩, hB⟩
    replace hS := hS.kept hB
    replace hBB := hBB.trans (hB.mono hBB.size)
    clear hB
    go_wp2_with fail
    refine (Z.pending _).mono ?_
    rintro e z2 ⟨⟨u3, v3, rfl⟩, hB⟩
    replace hS := hS.kept hB
    replace hBB := hBB.trans (hB.mono hBB.size)
    clear hB
    go_wp2_with fail
    refine (Z.copy _).mono ?_
    rintro e z3 ⟨rfl, hB⟩
    replace hS := hS.kept hB
    replace hBB := hBB.trans (hB.mono hBB.size)
    clear hB
    go_wp2
    go_ret
    exact ⟨rfl, hBB⟩
end
end Go.Proofs.Ytadnfiikfhdphaa
