import Derived.Test.YtafbkdpheneceaaQExZ4
namespace Go.Proofs.Ytafbkdpheneceaa
open Go.RowKit Go.Shelf
attribute [local go_sem] Oper.semAt_some

/-! The landed extent: Ranges -/
def rp (p : Pr) : Pr := (p.1, p.2 - p.1)
def FcL (d : Pr) (v : Value) (x : World) : Prop := ∃ y, v = .slice (some ⟨y, 0, none⟩) 1 1 ∧ x.rangeAt y 0 (prE.enc d) ∧ y < x.heap.size
theorem FcL.mk (x : World) (d : Pr) : FcL d (.slice (some ⟨x.heap.size, 0, none⟩) 1 1) (x.alloc (.cells (prA d) 33)) :=
  ⟨x.heap.size, rfl, fun j u hu => by
    rw [Nat.zero_add, cell_of_row _ _ j _ _ _ (heap_alloc_last x _)]
    rw [prE_enc, Array.getElem?_toList] at hu; exact hu, by simp⟩
theorem FcL.later {d : Pr} {v : Value} {x x' : World} (h : FcL d v x) (hb : Below x.heap.size x x') : FcL d v x' := by
  obtain ⟨y, e, h1, h2⟩ := h
  exact ⟨y, e, range_later h1 hb, Nat.lt_of_lt_of_le h2 hb.size⟩
/-- What the rounds keep up: the list so far. -/
structure RgS (w : World) (g3 : Nat) (Z : List Nat) (pre : List Pr) (W : World) (sv : Value) : Prop where
  box : Boxed W g3 31 sv
  own : OwnK prE W (g3 + 1) sv (pre.map rp)
  bel : Below g3 w W
  off : ∀ q ∈ Z, g3 + 1 ≤ q ∧ q < W.heap.size ∧ sv.ownBlock ≠ some q
def RgI (w : World) (g3 : Nat) (Z : List Nat) (pre : List Pr) (W : World) : Prop := ∃ sv, RgS w g3 Z pre W sv
theorem rgI_bears (w X : World) (g3 : Nat) (hg : w.heap.size = g3) (hX : X.heap.size = g3 + 1) : Bears X.heap.size (RgI w g3) where
  grow := fun {Z pre W W'} h hk => by
    obtain ⟨sv, h⟩ := h
    have hgz : g3 ∉ Z := fun hm => by have := h.off g3 hm; omega
    refine ⟨sv, (hk.block g3 h.box.lt hgz).trans h.box, h.own.keeps hk (fun q hq hm => (h.off q hm).2.2 hq), ⟨hk.os.trans h.bel.os, hk.tape.trans h.bel.tape, hk.output.trans h.bel.output, Nat.le_trans h.bel.size hk.size, fun k hl => (hk.block k (by have := h.bel.size; omega) (fun hm => by have := (h.off k hm).1; omega)).trans (h.bel.block k hl)⟩, fun q hq => ⟨(h.off q hq).1, Nat.lt_of_lt_of_le (h.off q hq).2.1 hk.size, (h.off q hq).2.2⟩⟩
  new := fun {Z Z' pre W W'} h hb hZ => by
    obtain ⟨sv, h⟩ := h
    have hlt := h.box.lt
    refine ⟨sv, box_later h.box hb, h.own.keep hb, h.bel.trans (hb.mono (by omega)), fun q hq => ?_⟩
    rcases List.mem_append.1 hq with hq | hq
    · have := hZ q hq
      exact ⟨by omega, this.2, fun e => by have := (World.ownsRow.lt h.own q e).2; omega⟩
    · have := h.off q hq
      exact ⟨this.1, Nat.lt_of_lt_of_le this.2.1 hb.size, this.2.2⟩
  lt := fun h q hq => by obtain ⟨sv, h⟩ := h; exact (h.off q hq).2.1
  put := fun {Z pre W k o} o' h hB hk ho => by
    obtain ⟨sv, h⟩ := h
    refine ⟨sv, (stands_box _ _ _).put o' h.box hk ho, (stands_ownK _ _ _ _).put o' h.own hk ho, h.bel.grown (grownBy_putObj' W k o') (by have := h.bel.size; omega) (fun j e => by cases e; omega), fun q hq => by rw [World.putObj_size]; exact h.off q hq⟩
theorem keeps_grown {W W' : World} {row : Option Nat} (hg : W.grownBy W' row) (hr : ∀ r, row = some r → ∃ cs t fr, W.heap[r]? = some (.cells cs t fr)) : KeepsOthers W W' :=
  ⟨hg.size, fun k o hk ho => (hg.block k (Array.getElem?_eq_some_iff.1 hk).1 (fun e => by
    obtain ⟨cs, t, fr, h⟩ := hr k e.symm
    rw [h] at hk; cases hk; cases ho)).trans hk⟩
theorem own_cells {W : World} {B : Nat} {v : Value} {ds : List Pr} (h : OwnK prE W B v ds) (r : Nat) (hr : v.ownBlock = some r) : ∃ cs t fr, W.heap[r]? = some (.cells cs t fr) := by
  rcases h.2 with ⟨rfl, _⟩ | ⟨g, cap, cur, rfl, _, hg, _⟩
  · cases hr
  · have e9 : r = g := by cases hr; rfl
    rw [e9]; exact ⟨_, _, _, hg⟩
theorem ranges_of {st : XSt} {L ys : List Pr} (hF : Fr st L) (hle : st.fr ≤ st.hi) (h : Come L ys []) : rI (xRuns st) = ys.map rp ∧ (xRuns st).length = ys.length := by
  obtain ⟨ts, e, hts⟩ := h.runs hF hle
  rw [hts rfl, List.append_nil] at e
  rw [e]
  exact ⟨rI_tr ys (fun p hp => by have := h.bnd hF p hp; omega), by simp⟩
set_option linter.unusedSimpArgs false in
set_option maxHeartbeats 4000000 in
theorem xranges_any (w : World) (b : Nat) (st : XSt) (sv : Value) (l : List Pr) (h : ExAt w b st sv l) :
    Calls Try.prog 10 #[.pointer (some ⟨b, 0, none⟩)] w fun e w' => ∃ y c, e = .returned (.slice y (xRuns st).length c) ∧ OwnK prE w' w.heap.size (.slice y (xRuns st).length c) (rI (xRuns st)) ∧ Below w.heap.size w w' := by
  have hB := below_alloc w (.cells #[.slice none 0 0] 31)
  have h3 := Boxed.new w 31 (.slice none 0 0)
  have hs : (w.alloc (.cells #[.slice none 0 0] 31)).heap.size = w.heap.size + 1 := by simp
  have hX := h.later hB
  have hlen := h.len
  obtain ⟨RL, hRL⟩ : ∃ q, (xRuns st).length = q := ⟨_, rfl⟩
  obtain ⟨RI, hRI⟩ : ∃ q, rI (xRuns st) = q := ⟨_, rfl⟩
  have HRL : Hid ((xRuns st).length = RL) := hRL
  have HRI : Hid (rI (xRuns st) = RI) := hRI
  rw [hRL, hRI]
  clear hRL hRI h
  refine calls_marks Try.func10 rfl ?_
  simp only [Try.ntmps10, List.size_toArray, List.length_cons, List.length_nil, Nat.reduceAdd, Nat.reduceSub, Array.replicate_succ, Array.replicate_zero, List.push_toArray, List.append_toArray, List.nil_append, List.cons_append]
  go_upto_region 4 with fail
  obtain ⟨g3, hg3⟩ : ∃ g, w.heap.size = g := ⟨_, rfl⟩
  simp only [hg3] at h3 hs ⊢
  generalize w.alloc (.cells #[.slice none 0 0] 31) = X at hB h3 hs hX ⊢
  have HX : Hid _ := hX
  have hI0 : RgI w g3 [] [] X := ⟨_, h3, OwnK.nil _ _ _, by rw [hg3] at hB; exact hB, by simp⟩
  go_wp2_with fail
  refine wp_rangeB (L := l) (gf := 31) (rv := .pointer (some ⟨b, 2, none⟩)) rfl eg31 (fun lx J Jx W hW hR h0 => rising_rounds lx J Jx W b 2 _ _ sv l hR ((hX.at_).later hW) hX.hp hlen h0) (RgI w g3) (fun _ _ => False) (rgI_bears w X g3 hg3 hs) (fun _ h => h.elim) hI0
    (fun y gx => { tmps := #[.pointer (some ⟨b, 0, none⟩), undef, .slice none 0 0, .pointer (some ⟨g3, 0, none⟩), .pointer (some ⟨gx, 0, none⟩), .pointer (some ⟨b, 0, none⟩), .bool false, .pointer (some ⟨b, 0, none⟩), .pointer (some ⟨b, 0, none⟩), .pointer (some ⟨b, 2, none⟩), .func (.func 31) #[.pointer (some ⟨b, 2, none⟩)] #[], .agg (prA y), undef, undef, undef, undef, undef, undef, undef, undef, undef], defers := [] }) ?assign ?body ?done ?stop
  case assign =>
    intro lx y W K hK
    gi_wp2
    exact hK
  case stop =>
    rintro D pre rest W hD hC h
    exact h.elim
  case done =>
    rintro D Z ys W hD hC ⟨sv2, hS⟩ hDk
    obtain ⟨e1, e2⟩ := ranges_of HX.out.fr HX.out.le hC
    rw [HRI.out] at e1
    rw [HRL.out] at e2
    have hO := hS.own
    rw [← e1] at hO
    obtain ⟨sa, sc, rfl⟩ := (hO.isK prE_ok).len
    have e3 : RI.length = RL := by rw [e1, e2]; simp
    rw [e3] at hO hS
    have c3 := hS.box.cell
    have hbel := hS.bel
    have HDk : Hid _ := hDk
    have HO : Hid _ := hO
    clear hDk hO hS e1 e2
    go_wp2_with fail
    have hdd : ∀ D' ∈ [D], W.heap[D']? = some (.deferred (some [])) := fun D' h => by simp at h; subst h; exact HDk.out
    refine leave_marks [D] _ (by simp) hdd ⟨_, results_tmp (t := 2) rfl _ _ _, _, _, rfl, ?_, ?_⟩
    · exact (shut_stands (stands_ownK _ _ _ _) [D] _ (by simp) hdd HO.out).le (by omega)
    · exact shut_below [D] _ (by simp) hdd (fun D' h => by simp at h; subst h; omega) (by rw [hg3]; exact hbel)
  case body =>
    rintro lx Z pre y gx W ⟨sv2, hS⟩ hrow hlt hmem
    have hyb := HX.out.fr.bnd y hmem
    have hhi := HX.out.hi
    have hy1 : -4611686018427387904 ≤ y.1 := by omega
    have hy2 : y.1 ≤ 4611686018427387903 := by omega
    have hy3 : -4611686018427387904 ≤ y.2 := by omega
    have hy4 : y.2 ≤ 4611686018427387903 := by omega
    obtain ⟨sa, sc, rfl⟩ := (hS.own.isK prE_ok).len
    obtain ⟨k, hk⟩ : ∃ k, (pre.map rp).length = k := ⟨_, rfl⟩
    rw [hk] at hS
    have hkl : k ≤ 1024 := by rw [List.length_map] at hk; omega
    have c3 := hS.box.cell
    clear hyb
    gi_wp2_with fail
    refine wpR_reliesT (fun ⟨_, _, h⟩ => h) (by kernel_rfl) [Fx (.slice sa k sc), Fx (.pointer (some ⟨gx, 0, none⟩)), Fx (.int .i64 (y.1)), Fx (.agg (prA y)), Fx (.int .i64 (y.2 - y.1)), Fx (.agg (prA (y.1, y.2 - y.1))), fun v x => FcL (y.1, y.2 - y.1) v x] (by kernel_rfl) (by kernel_rfl) ?_ ?_ ?_
    · repeat' (first | exact all_nil | apply all_cons)
      all_goals intro v y y' hv hb
      all_goals first | exact Fx_mono _ _ _ _ hv hb | exact FcL.later hv hb
    · refine ⟨?_, ?_, ?_, ?_, ?_, ?_, ?_, trivial⟩
      all_goals
        intro ρ x hp ρc ρg ρf ho hd
        have o4 : ρ (.tmp 4) = .pointer (some ⟨gx, 0, none⟩) := ho 4 rfl
        have o3 : ρ (.tmp 3) = .pointer (some ⟨g3, 0, none⟩) := ho 3 rfl
        clear ho
        have qx := hrow.kept hp
        have r1 := qx.1
        have r2 := qx.2
        have r3 : (rowAt x gx).size = 2 := by rw [r2]; exact prA_size _
        have r0 := qx.cell 0
        rw [prA_0] at r0
        have q3 := cell_later hp c3
        simp only [depsR, depR, slotR, Fx, List.getElem?_cons_succ, List.getElem?_cons_zero, Region.binds, forall_const] at hd
        simp only [guardR]
        go_split_ands
      · go_simp
      · go_simp
      · go_simp
      · go_simp
      · go_simp
        refine (size_any x y hy1 hy2 hy3 hy4).mono ?_
        rintro e w' ⟨rfl, hw⟩
        exact ⟨_, rfl, rfl, hw⟩
      · go_simp
      · go_simp
        exact ⟨FcL.mk x _, below_alloc _ _⟩
    · intro vs x2 hp hw
      simp only [owed, Fx] at hw
      obtain ⟨e0, e1, e2, e3, e4, e5, ⟨y6, e6, hr6, hl6⟩, -⟩ := hw
      simp only [List.length_cons, List.length_nil, List.take_succ_cons, List.take_zero, List.drop_succ_cons, List.drop_zero, asg, List.cons_append, List.nil_append, e0, e1, e2, e3, e4, e5, e6]
      clear e0 e1 e2 e3 e4 e5 e6
      have oP := hS.own.keep hp
      have hb3 := box_later hS.box hp
      have hbl := hS.bel.trans (hp.mono (by have := hS.box.lt; omega))
      have hszx : g3 + 1 ≤ x2.heap.size := by have := hb3.lt; omega
      obtain ⟨g9, c9, x9, hr, o1, o2, o3, o4⟩ := run_app1K prE_ok x2 (g3 + 1) y6 (.slice sa k sc) (pre.map rp) (y.1, y.2 - y.1) 31 oP hr6 hl6 (by rw [hk]; show (k + 1) * 16 ≤ _; omega) (by rw [hk]; unfold maxLen; omega) hszx
      rw [hk] at hr o1
      have hTS : prE.S = 31 := rfl
      rw [hTS] at hr
      have hne3 : some g3 ≠ (Value.slice sa k sc).ownBlock := fun e => by have := (World.ownsRow.lt oP g3 e.symm).1; omega
      have hb9 : Boxed x9 g3 31 (.slice sa k sc) := hb3.kept o3 hne3
      have c9' := hb9.cell
      have f9 := hb9.frozen
      have hbl9 : Below g3 w x9 := hbl.grown o3 (by omega) (fun j e => by have := (World.ownsRow.lt oP j e).1; omega)
      have g9ne : g9 ≠ g3 := fun e => by
        rcases o4 with o4 | o4
        · exact hne3 (by rw [← e]; exact o4.symm)
        · omega
      have b10 := hb9.set (.slice (some ⟨g9, 0, none⟩) (k + 1) c9)
      have hKs : Keep [g3] x9 (x9.setCell ⟨g3, 0, none⟩ (.slice (some ⟨g9, 0, none⟩) (k + 1) c9)) := Keep.of_grown (grown_c1 x9 g3 0 _) (fun q hq => by cases hq; simp)
      have o10 := o1.keeps hKs (fun q hq => by have e9 : q = g9 := (by cases hq; rfl); rw [e9]; simpa using g9ne)
      have bl10 : Below g3 w (x9.setCell ⟨g3, 0, none⟩ (.slice (some ⟨g9, 0, none⟩) (k + 1) c9)) := below_set hbl9 (Nat.le_refl _) (by omega) _
      have hoff : ∀ q ∈ Z, (x9.setCell ⟨g3, 0, none⟩ (.slice (some ⟨g9, 0, none⟩) (k + 1) c9)).heap[q]? = W.heap[q]? ∧ g9 ≠ q := fun q hq => by
        have h9 := hS.off q hq
        have hsz2 := hp.size
        refine ⟨(hKs.block q (by have := o3.size; omega) (by simp; omega)).trans ((o3.block q (by omega) (fun e => h9.2.2 e.symm)).trans (hp.block q h9.2.1)), fun e => ?_⟩
        rcases o4 with o4 | o4
        · exact h9.2.2 (by rw [← e]; exact o4)
        · omega
      have hKO : KeepsOthers W (x9.setCell ⟨g3, 0, none⟩ (.slice (some ⟨g9, 0, none⟩) (k + 1) c9)) := ((keeps_below hp).trans (keeps_grown o3 (own_cells oP))).trans (keeps_set hb9 _)
      have hszf : ∀ q, q < W.heap.size → q < (x9.setCell ⟨g3, 0, none⟩ (.slice (some ⟨g9, 0, none⟩) (k + 1) c9)).heap.size := fun q hq => by have := hp.size; have := o3.size; have := hKs.size; omega
      have HF : Hid (RgI w g3 Z (pre ++ [y]) (x9.setCell ⟨g3, 0, none⟩ (.slice (some ⟨g9, 0, none⟩) (k + 1) c9))) := ⟨_, b10, by rw [List.map_append]; exact o10, bl10, fun q hq => ⟨(hS.off q hq).1, hszf q (hS.off q hq).2.1, fun e => (hoff q hq).2 (by cases e; rfl)⟩⟩
      have HO : Hid _ := hoff
      have HK : Hid _ := hKO
      clear hS hrow oP hb3 hbl o1 o2 o3 b10 hKs o10 bl10 hoff hKO hszf hb9 hbl9
      go_wp2_with (at_builtin; refine wpL_appG 31 rfl _ _ rfl _ x9 (by exact hr) ?_)
      gi_wp2_with fail
      exact ⟨HK.out, HF.out, fun q hq => (HO.out q hq).1⟩
end Go.Proofs.Ytafbkdpheneceaa
