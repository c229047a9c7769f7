import Derived.Test.YtafbkdpheneceaaQRgb
import Derived.Test.YtafbkdpheneceaaQRnr
namespace Go.Proofs.Ytafbkdpheneceaa
open Go.RowKit Go.Shelf
attribute [local go_sem] Oper.semAt_some

/-! The landed extent: Lowest -/
theorem eg31 : ∀ args w, (callFunc 31 args).run Try.prog w = .ok (.enter 31 args) w := enters_of Try.func31 (by kernel_rfl) rfl
theorem Come.runs {st : XSt} {L pre rest : List Pr} (hF : Fr st L) (hle : st.fr ≤ st.hi) (h : Come L pre rest) : ∃ ts, xRuns st = pre.map tr ++ ts ∧ (rest = [] → ts = []) := by
  obtain ⟨ys, hp, hS⟩ := srt_ex rest
  refine ⟨ys.map tr, ?_, fun e => by subst e; rw [List.Perm.eq_nil hp]; rfl⟩
  rw [← List.map_append]
  refine (hF.runs hle ((List.Perm.append_left pre hp).trans h.perm) ?_).symm
  unfold Srt
  rw [List.pairwise_append]
  exact ⟨h.srt, hS, fun p hp1 q hq => h.low p hp1 q (hp.mem_iff.1 hq)⟩
theorem Come.bnd {st : XSt} {L pre rest : List Pr} (hF : Fr st L) (h : Come L pre rest) (p : Pr) (hp : p ∈ pre) : (st.fr : Int) ≤ p.1 ∧ p.1 < p.2 ∧ p.2 ≤ (st.hi : Int) := hF.bnd p (h.perm.mem_iff.1 (List.mem_append_left _ hp))
theorem low_none {st : XSt} {L ys : List Pr} {n : Int} (hF : Fr st L) (hle : st.fr ≤ st.hi) (h : Come L ys []) (hno : ∀ p ∈ ys, p.2 - p.1 < n) : xLow st n = none := by
  obtain ⟨ts, e, hts⟩ := h.runs hF hle
  unfold xLow
  rw [e, hts rfl, List.append_nil]
  refine lowR_none n _ (.inr fun q hq => ?_)
  obtain ⟨p, hp, rfl⟩ := List.mem_map.1 hq
  have h1 := hno p hp
  have h2 := h.bnd hF p hp
  unfold tr
  simp only; omega
theorem low_some {st : XSt} {L pre rest : List Pr} {x : Pr} {n : Int} (hF : Fr st L) (hle : st.fr ≤ st.hi) (h : Come L (pre ++ [x]) rest) (h0 : 0 < n) (hno : ∀ p ∈ pre, p.2 - p.1 < n) (hx : n ≤ x.2 - x.1) : xLow st n = some x.1.toNat ∧ 0 ≤ x.1 := by
  obtain ⟨ts, e, -⟩ := h.runs hF hle
  have hb := h.bnd hF x (by simp)
  refine ⟨?_, by omega⟩
  unfold xLow
  rw [e]
  refine lowR_first n _ pre.length (tr x) ?_ h0 ?_ fun j q hj hq => ?_
  · rw [List.getElem?_append_left (by simp)]
    simp
  · unfold tr; simp only; omega
  · rw [List.getElem?_append_left (by simp; omega), List.map_append, List.getElem?_append_left (by simpa using hj), List.getElem?_map] at hq
    obtain ⟨p, hp, rfl⟩ := Option.map_eq_some_iff.1 hq
    have hm := List.mem_of_getElem? hp
    have h1 := hno p hm
    have h2 := h.bnd hF p (List.mem_append_left _ hm)
    unfold tr
    simp only; omega
theorem cell_results2 {fn : Func} {tmps : Array Value} {w : World} (p q : Tmp) (b c : Nat) (z : Int) (v : Bool) (hres : fn.results = #[.cell p 3, .cell q 4]) (hp : tmps.getD p undef = .pointer (some ⟨b, 0, none⟩)) (hq : tmps.getD q undef = .pointer (some ⟨c, 0, none⟩)) (hb : w.cell? ⟨b, 0, none⟩ = some (.int .i64 z)) (hc : w.cell? ⟨c, 0, none⟩ = some (.bool v)) :
    (results fn tmps).run Try.prog w = .ok (.tuple #[.int .i64 z, .bool v]) w := by
  have hp' : tmps[p]?.getD undef = .pointer (some ⟨b, 0, none⟩) := by simpa using hp
  have hq' : tmps[q]?.getD undef = .pointer (some ⟨c, 0, none⟩) := by simpa using hq
  simp [results, hres, go_sem, hp', hq', hb, hc]
/-- While nothing that was there has turned. -/
def LoI (w : World) (n : Int) (Z : List Nat) (pre : List Pr) (W : World) : Prop := (∀ p ∈ pre, p.2 - p.1 < n) ∧ Below w.heap.size w W ∧ ∀ q ∈ Z, w.heap.size ≤ q ∧ q < W.heap.size
theorem loI_bears (w : World) (n : Int) : Bears w.heap.size (LoI w n) where
  grow := fun {Z pre W W'} h hk => ⟨h.1, ⟨hk.os.trans h.2.1.os, hk.tape.trans h.2.1.tape, hk.output.trans h.2.1.output, Nat.le_trans h.2.1.size hk.size, fun k hl => (hk.block k (by have := h.2.1.size; omega) (fun hm => by have := (h.2.2 k hm).1; omega)).trans (h.2.1.block k hl)⟩, fun q hq => ⟨(h.2.2 q hq).1, Nat.lt_of_lt_of_le (h.2.2 q hq).2 hk.size⟩⟩
  new := fun {Z Z' pre W W'} h hb hZ => ⟨h.1, h.2.1.trans (hb.mono h.2.1.size), fun q hq => by
    rcases List.mem_append.1 hq with hq | hq
    · have := hZ q hq; have := h.2.1.size; omega
    · have := h.2.2 q hq; have := hb.size; omega⟩
  lt := fun h q hq => (h.2.2 q hq).2
  put := fun {Z pre W k o} o' h hB hk ho => ⟨h.1, h.2.1.grown (grownBy_putObj' W k o') (by have := h.2.1.size; omega) (fun j e => by cases e; exact hB), fun q hq => by rw [World.putObj_size]; exact h.2.2 q hq⟩
theorem low_boxes (w : World) (n : Int) : Below w.heap.size w (((w.alloc (.cells #[.int .i64 n] 3)).alloc (.cells #[.int .i64 0] 3)).alloc (.cells #[.bool false] 4)) ∧
    Boxed (((w.alloc (.cells #[.int .i64 n] 3)).alloc (.cells #[.int .i64 0] 3)).alloc (.cells #[.bool false] 4)) w.heap.size 3 (.int .i64 n) ∧
    Boxed (((w.alloc (.cells #[.int .i64 n] 3)).alloc (.cells #[.int .i64 0] 3)).alloc (.cells #[.bool false] 4)) (w.heap.size + 1) 3 (.int .i64 0) ∧
    Boxed (((w.alloc (.cells #[.int .i64 n] 3)).alloc (.cells #[.int .i64 0] 3)).alloc (.cells #[.bool false] 4)) (w.heap.size + 1 + 1) 4 (.bool false) ∧
    (((w.alloc (.cells #[.int .i64 n] 3)).alloc (.cells #[.int .i64 0] 3)).alloc (.cells #[.bool false] 4)).heap.size = w.heap.size + 3 := by
  have e1 : (w.alloc (.cells #[.int .i64 n] 3)).heap.size = w.heap.size + 1 := by simp
  have e2 : ((w.alloc (.cells #[.int .i64 n] 3)).alloc (.cells #[.int .i64 0] 3)).heap.size = w.heap.size + 1 + 1 := by simp
  have x1 := Boxed.new (w.alloc (.cells #[.int .i64 n] 3)) 3 (.int .i64 0)
  have x2 := Boxed.new ((w.alloc (.cells #[.int .i64 n] 3)).alloc (.cells #[.int .i64 0] 3)) 4 (.bool false)
  rw [e1] at x1
  rw [e2] at x2
  refine ⟨(below_al2 w _ _).trans ((below_alloc _ _).mono (by simp; omega)), ((Boxed.new w 3 (.int .i64 n)).alloc _).alloc _, x1.alloc _, x2, by simp⟩
theorem box_frozen {W : World} {b : Nat} {t : TypeId} {v : Value} (h : Boxed W b t v) : W.frozen? ⟨b, 0, none⟩ = false := frozen_rowL (by unfold rowL; rw [show W.heap[b]? = _ from h]; rfl) 0
theorem box_set {W : World} {b : Nat} {t : TypeId} {v : Value} (h : Boxed W b t v) (v' : Value) : Boxed (W.setCell ⟨b, 0, none⟩ v') b t v' := by
  have := heap_setCell W b 0 v' _ _ _ h
  unfold Boxed
  rw [this]; simp
theorem box_other {W : World} {b c : Nat} {t : TypeId} {v : Value} (h : Boxed W c t v) (hne : c ≠ b) (v' : Value) : Boxed (W.setCell ⟨b, 0, none⟩ v') c t v := by
  unfold Boxed
  rw [Below.heap_setCell W ⟨b, 0, none⟩ v' c hne]; exact h
theorem below_set {B : Nat} {w W : World} {b : Nat} (h : Below B w W) (hb : B ≤ b) (hB : B ≤ w.heap.size) (v' : Value) : Below B w (W.setCell ⟨b, 0, none⟩ v') := h.grown (grown_c1 W b 0 v') (by have := h.size; omega) (fun k e => by cases e; exact hb)
theorem keeps_set {W : World} {b : Nat} {t : TypeId} {v : Value} (h : Boxed W b t v) (v' : Value) : KeepsOthers W (W.setCell ⟨b, 0, none⟩ v') :=
  ⟨(grown_c1 W b 0 v').size, fun k o hk ho => by
    by_cases e : k = b
    · subst e
      rw [show W.heap[k]? = _ from h] at hk
      cases hk; cases ho
    · rw [Below.heap_setCell W ⟨b, 0, none⟩ v' k e]; exact hk⟩
/-- When one has been found: it is told. -/
def LoX (w : World) (g3 : Nat) (n : Int) (xs : List Pr) (W : World) : Prop := ∃ pre y, xs = pre ++ [y] ∧ (∀ p ∈ pre, p.2 - p.1 < n) ∧ n ≤ y.2 - y.1 ∧ W.cell? ⟨g3 + 1, 0, none⟩ = some (.int .i64 y.1) ∧ W.cell? ⟨g3 + 1 + 1, 0, none⟩ = some (.bool true) ∧ Below (g3 + 1) w W
theorem loX_put (w : World) (g3 : Nat) (n : Int) (hg : g3 + 1 ≤ w.heap.size) {pre : List Pr} {W : World} {k : Nat} {o : Obj} (o' : Obj) (h : LoX w g3 n pre W) (hB : w.heap.size ≤ k) (hk : W.heap[k]? = some o) (ho : o.isCells = false) : LoX w g3 n pre (W.putObj k o') := by
  obtain ⟨pr, y, e, h1, h2, h3, h4, h5⟩ := h
  refine ⟨pr, y, e, h1, h2, (stands_cell _ _).put o' h3 hk ho, (stands_cell _ _).put o' h4 hk ho, ?_⟩
  exact h5.grown (grownBy_putObj' W k o') (by have := h5.size; omega) (fun j e => by cases e; omega)
set_option linter.unusedSimpArgs false in
set_option maxHeartbeats 2000000 in
theorem xlow_no (w : World) (b : Nat) (st : XSt) (n : Int) (hn : n < 1) :
    Calls Try.prog 12 #[.pointer (some ⟨b, 0, none⟩), .int .i64 n] w fun e w' => e = .returned (.tuple #[.int .i64 ((xLow st n).getD 0 : Nat), .bool (xLow st n).isSome]) ∧ Below w.heap.size w w' := by
  have hl : xLow st n = none := lowR_none n _ (.inl (by omega))
  rw [hl]
  go_enter Try.func12, Try.ntmps12
  go_wp2_with fail
  obtain ⟨hB, h3, h4, h5, hs⟩ := low_boxes w n
  refine bodyPost_ret (cell_results2 4 5 (w.heap.size + 1) (w.heap.size + 1 + 1) 0 false rfl rfl rfl h4.cell h5.cell) rfl ?_
  exact ⟨rfl, hB⟩
set_option linter.unusedSimpArgs false in
set_option maxHeartbeats 2000000 in
theorem xlow_yes (w : World) (b : Nat) (st : XSt) (sv : Value) (l : List Pr) (n : Int) (h : ExAt w b st sv l) (hn : ¬ n < 1) :
    Calls Try.prog 12 #[.pointer (some ⟨b, 0, none⟩), .int .i64 n] w fun e w' => e = .returned (.tuple #[.int .i64 ((xLow st n).getD 0 : Nat), .bool (xLow st n).isSome]) ∧ Below w.heap.size w w' := by
  obtain ⟨hB, h3, h4, h5, hs⟩ := low_boxes w n
  have hX := h.later hB
  have hlen := h.len
  obtain ⟨k, hkl⟩ : ∃ k, xLow st n = k := ⟨_, rfl⟩
  have HK9 : Hid (xLow st n = k) := hkl
  rw [hkl]
  clear hkl h
  refine calls_marks Try.func12 rfl ?_
  simp only [Try.ntmps12, List.size_toArray, List.length_cons, List.length_nil, Nat.reduceAdd, Nat.reduceSub, Array.replicate_succ, Array.replicate_zero, List.push_toArray, List.append_toArray, List.nil_append, List.cons_append]
  go_upto_region 3 with fail
  obtain ⟨g3, hg3⟩ : ∃ g, w.heap.size = g := ⟨_, rfl⟩
  simp only [hg3] at h3 h4 h5 hs ⊢
  generalize ((w.alloc (.cells #[.int .i64 n] 3)).alloc (.cells #[.int .i64 0] 3)).alloc (.cells #[.bool false] 4) = X at hB h3 h4 h5 hs hX ⊢
  go_wp2_with fail
  have HX : Hid _ := hX
  refine wp_rangeB (L := l) (gf := 31) (rv := .pointer (some ⟨b, 2, none⟩)) rfl eg31 (fun lx J Jx W hW hR h0 => rising_rounds lx J Jx W b 2 _ _ sv l hR ((hX.at_).later hW) hX.hp hlen h0) (LoI X n) (LoX X g3 n) (loI_bears X n) (loX_put X g3 n (by omega)) ⟨by simp, Below.refl _ _, by simp⟩
    (fun y gx => { tmps := #[.pointer (some ⟨b, 0, none⟩), .int .i64 n, undef, .pointer (some ⟨g3, 0, none⟩), .pointer (some ⟨g3 + 1, 0, none⟩), .pointer (some ⟨g3 + 1 + 1, 0, none⟩), .pointer (some ⟨gx, 0, none⟩), .pointer (some ⟨b, 0, none⟩), .bool false, .bool false, .int .i64 n, .bool false, .bool false, .pointer (some ⟨b, 0, none⟩), .pointer (some ⟨b, 0, none⟩), .pointer (some ⟨b, 2, none⟩), .func (.func 31) #[.pointer (some ⟨b, 2, none⟩)] #[], .agg (prA y), undef, undef, undef, undef, undef, undef], defers := [] }) ?assign ?body ?done ?stop
  case assign =>
    intro lx y W K hK
    gi_wp2
    exact hK
  case stop =>
    rintro D pre rest W hD hC ⟨pr, y, rfl, hno, hy, c4, c5, hbl⟩ hDk
    obtain ⟨hlow, hy0⟩ := low_some HX.out.fr HX.out.le hC (by omega) hno hy
    rw [HK9.out] at hlow
    subst hlow
    have HDk : Hid _ := hDk
    clear hDk
    go_wp2_with fail
    have hdd : ∀ D' ∈ [D], W.heap[D']? = some (.deferred (some [])) := fun D' h => by simp at h; subst h; exact HDk.out
    refine leave_marks [D] _ (by simp) hdd ⟨_, cell_results2 4 5 (g3 + 1) (g3 + 1 + 1) y.1 true rfl rfl rfl (shut_stands (stands_cell _ _) [D] _ (by simp) hdd c4) (shut_stands (stands_cell _ _) [D] _ (by simp) hdd c5), ?_, ?_⟩
    · simp; omega
    · exact shut_below [D] _ (by simp) hdd (fun D' h => by simp at h; subst h; omega) (hB.trans (hbl.mono (by omega)))
  case done =>
    rintro D Z ys W hD hC ⟨hno, hbl, -⟩ hDk
    have hlow := low_none HX.out.fr HX.out.le hC hno
    rw [HK9.out] at hlow
    subst hlow
    have HDk : Hid _ := hDk
    clear hDk
    have x4 := box_later h4 hbl
    have x5 := box_later h5 hbl
    have k4 := x4.cell
    have f4 := box_frozen x4
    have y4 := box_set x4 (.int .i64 0)
    have y5 := box_other x5 (show g3 + 1 + 1 ≠ g3 + 1 by omega) (.int .i64 0)
    have hD1 : (W.setCell ⟨g3 + 1, 0, none⟩ (.int .i64 0)).heap[D]? = some (.deferred (some [])) := by rw [Below.heap_setCell W ⟨g3 + 1, 0, none⟩ (.int .i64 0) D (by show D ≠ g3 + 1; omega)]; exact HDk.out
    have k5 := y5.cell
    have f5 := box_frozen y5
    have hb1 : Below w.heap.size w (W.setCell ⟨g3 + 1, 0, none⟩ (.int .i64 0)) := below_set (hB.trans (hbl.mono hB.size)) (by omega) (Nat.le_refl _) _
    have z4 := box_other y4 (show g3 + 1 ≠ g3 + 1 + 1 by omega) (.bool false)
    have z5 := box_set y5 (.bool false)
    have hD2 : ((W.setCell ⟨g3 + 1, 0, none⟩ (.int .i64 0)).setCell ⟨g3 + 1 + 1, 0, none⟩ (.bool false)).heap[D]? = some (.deferred (some [])) := by rw [Below.heap_setCell _ ⟨g3 + 1 + 1, 0, none⟩ (.bool false) D (by show D ≠ g3 + 1 + 1; omega)]; exact hD1
    have hb2 : Below w.heap.size w ((W.setCell ⟨g3 + 1, 0, none⟩ (.int .i64 0)).setCell ⟨g3 + 1 + 1, 0, none⟩ (.bool false)) := below_set hb1 (by omega) (Nat.le_refl _) _
    clear x4 x5 y4 y5 hD1 hb1
    go_wp2_with fail
    generalize (W.setCell ⟨g3 + 1, 0, none⟩ (.int .i64 0)).setCell ⟨g3 + 1 + 1, 0, none⟩ (.bool false) = V at z4 z5 hD2 hb2 ⊢
    have hdd : ∀ D' ∈ [D], V.heap[D']? = some (.deferred (some [])) := fun D' h => by simp at h; subst h; exact hD2
    refine leave_marks [D] _ (by simp) hdd ⟨_, cell_results2 4 5 (g3 + 1) (g3 + 1 + 1) 0 false rfl rfl rfl (shut_stands (stands_cell _ _) [D] _ (by simp) hdd z4.cell) (shut_stands (stands_cell _ _) [D] _ (by simp) hdd z5.cell), ?_, ?_⟩
    · rfl
    · exact shut_below [D] _ (by simp) hdd (fun D' h => by simp at h; subst h; omega) hb2
  case body =>
    rintro lx Z pre y gx W ⟨hno, hbl, hZ⟩ hrow hlt hmem
    have hyb := HX.out.fr.bnd y hmem
    have hhi := HX.out.hi
    have hy1 : -4611686018427387904 ≤ y.1 := by omega
    have hy2 : y.1 ≤ 4611686018427387903 := by omega
    have hy3 : -4611686018427387904 ≤ y.2 := by omega
    have hy4 : y.2 ≤ 4611686018427387903 := by omega
    have x3 := box_later h3 hbl
    have x4 := box_later h4 hbl
    have x5 := box_later h5 hbl
    have c3 := x3.cell
    clear hyb
    gi_wp2_with fail
    refine wpR_reliesT (fun ⟨_, _, h⟩ => h) (by kernel_rfl) [Fx (.agg (prA y)), Fx (.int .i64 (y.2 - y.1)), Fx (.int .i64 (n))] (by kernel_rfl) (by kernel_rfl) ?_ ?_ ?_
    · repeat' (first | exact all_nil | apply all_cons)
      all_goals intro v y y' hv hb
      all_goals first | exact Fx_mono _ _ _ _ hv hb
    · refine ⟨?_, ?_, ?_, trivial⟩
      all_goals
        intro ρ x hp ρc ρg ρf ho hd
        have o6 : ρ (.tmp 6) = .pointer (some ⟨gx, 0, none⟩) := ho 6 rfl
        have o3 : ρ (.tmp 3) = .pointer (some ⟨g3, 0, none⟩) := ho 3 rfl
        clear ho
        have qx := hrow.kept hp
        have r1 := qx.1
        have r2 := qx.2
        have r3 : (rowAt x gx).size = 2 := by rw [r2]; exact prA_size _
        have q3 := cell_later hp c3
        simp only [depsR, depR, slotR, Fx, List.getElem?_cons_succ, List.getElem?_cons_zero, Region.binds, forall_const] at hd
        simp only [guardR]
        go_split_ands
      · go_simp
      · go_simp
        refine (size_any x y hy1 hy2 hy3 hy4).mono ?_
        rintro e w' ⟨rfl, hw⟩
        exact ⟨_, rfl, rfl, hw⟩
      · go_simp
    · intro vs x2 hp hw
      simp only [owed, Fx] at hw
      obtain ⟨e0, e1, e2, -⟩ := hw
      simp only [List.length_cons, List.length_nil, List.take_succ_cons, List.take_zero, List.drop_succ_cons, List.drop_zero, asg, List.cons_append, List.nil_append, e0, e1, e2]
      clear e0 e1 e2
      have hbl2 := hbl.trans (hp.mono hbl.size)
      have hrow2 := hrow.kept hp
      have x42 := box_later x4 hp
      have x52 := box_later x5 hp
      have hK9 := keeps_below hp
      have hZ2 : ∀ q ∈ Z, x2.heap[q]? = W.heap[q]? := fun q hq => hp.block q (hZ q hq).2
      have hZ3 : ∀ q ∈ Z, X.heap.size ≤ q ∧ q < x2.heap.size := fun q hq => ⟨(hZ q hq).1, Nat.lt_of_lt_of_le (hZ q hq).2 hp.size⟩
      by_cases hfit : n ≤ y.2 - y.1
      · have r0 := hrow2.cell 0
        rw [prA_0] at r0
        have k4 := x42.cell
        have f4 := x42.frozen
        have y4 := x42.set (.int .i64 y.1)
        have y5 := x52.other (show g3 + 1 + 1 ≠ g3 + 1 by omega) (.int .i64 y.1)
        have k5 := y5.cell
        have f5 := y5.frozen
        have z4 := y4.other (show g3 + 1 ≠ g3 + 1 + 1 by omega) (.bool true)
        have z5 := y5.set (.bool true)
        have hb2 : Below (g3 + 1) X ((x2.setCell ⟨g3 + 1, 0, none⟩ (.int .i64 y.1)).setCell ⟨g3 + 1 + 1, 0, none⟩ (.bool true)) := below_set (below_set (hbl2.mono (by omega)) (by omega) (by omega) _) (by omega) (by omega) _
        have hko : KeepsOthers W ((x2.setCell ⟨g3 + 1, 0, none⟩ (.int .i64 y.1)).setCell ⟨g3 + 1 + 1, 0, none⟩ (.bool true)) := hK9.trans ((keeps_set x42 _).trans (keeps_set y5 _))
        clear hrow hrow2 x4 x5 x3 x42 x52 y4 y5 hbl hbl2 hK9
        go_wp2
        gi_wp2_with fail
        exact ⟨hko, pre, y, rfl, hno, hfit, z4.cell, z5.cell, hb2⟩
      · have hno2 : ∀ p ∈ pre ++ [y], p.2 - p.1 < n := fun p hp9 => by
          rcases List.mem_append.1 hp9 with h9 | h9
          · exact hno p h9
          · simp only [List.mem_singleton] at h9
            subst h9; omega
        go_wp2
        gi_wp2_with fail
        exact ⟨hK9, ⟨hno2, hbl2, hZ3⟩, hZ2⟩
end Go.Proofs.Ytafbkdpheneceaa
