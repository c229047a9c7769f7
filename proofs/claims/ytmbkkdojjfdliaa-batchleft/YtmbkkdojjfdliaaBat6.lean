
import Derived.Test.YtmbkkdojjfdliaaBat5
import Derived.Test.YtmbkkdojjfdliaaApl
namespace Go.Proofs.Ytmbkkdojjfdliaa
open Go.RowKit

/-! assayref26.Cut -/
theorem kokp26 {G : List Nat} : KOk (Keep G) := ⟨fun h => Keep.of_below h, fun h k => h.trans k⟩
theorem newWr26 (w : World) (x : Wr) : (w.alloc (.cells (wrA x) 29)).rangeAt w.heap.size 0 (wrE.enc x) := fun j u hu => by
  rw [wrE_enc, Array.getElem?_toList] at hu
  rw [Nat.zero_add, World.cell?_alloc_at _ _ _ _ rfl]; exact hu
theorem eltLL : Elt 24 22 24 := ⟨Try.underlying24, by
  have h : (Try.prog.info? 22).map (fun i => (i.zero, i.size, i.bytes)) = some (some (.slice none 0 0), 1, 24) := by kernel_rfl
  obtain ⟨i, hi, hz⟩ := Option.map_eq_some_iff.1 h
  simp only [Prod.mk.injEq] at hz
  exact ⟨i, _, hi, hz.1, hz.2.1, hz.2.2, rfl⟩⟩
/-- Lists of one's own in a list of one's own, all apart. -/
def CutG (W : World) (B : Nat) (v : Value) (C : List (List Wr)) : Prop := ∃ (us : List Value) (T : Nat → Option Th), Ga W B T ∧ T 0 = some (thG 22 B v us) ∧ us.length = C.length ∧ ∀ (m : Nat) ds, C[m]? = some ds → ∃ u, us[m]? = some u ∧ T (m + 1) = some (thK wrE B u ds)
theorem CutG.start {W : World} {B : Nat} (h : B ≤ W.heap.size) : CutG W B (.slice none 0 0) [] :=
  ⟨[], _, (Ga.start h).newG 0 (Below.refl _ _) (OwnG.nil _ _ _) (OwnG.nil _ _ _), updT_same _ _ _, rfl, fun m ds hm => by simp at hm⟩
theorem CutG.later {W W' : World} {B : Nat} {v : Value} {C : List (List Wr)} (h : CutG W B v C) (hb : Below W.heap.size W W') : CutG W' B v C := by
  obtain ⟨us, T, h1, h2, h3, h4⟩ := h
  exact ⟨us, T, h1.later hb, h2, h3, h4⟩
theorem CutG.isLL {W : World} {B : Nat} {v : Value} {C : List (List Wr)} (h : CutG W B v C) : IsLL W v C := by
  obtain ⟨us, T, h1, h2, h3, h4⟩ := h
  refine ⟨us, (h1.isG h2).isG, h3, fun i ds hi => ?_⟩
  obtain ⟨u, k1, k2⟩ := h4 i ds hi
  have := (h1.isK k2).isK wrE_ok
  obtain ⟨x, c, rfl⟩ := this.len
  exact ⟨x, c, k1, this⟩
/-- A list of lists, all in memory from B on. -/
def OLL (w : World) (B : Nat) (v : Value) (C : List (List Wr)) : Prop := ∃ us : List Value, OwnG 22 w B v us ∧ us.length = C.length ∧ ∀ (i : Nat) ds, C[i]? = some ds → ∃ u, us[i]? = some u ∧ OwnK wrE w B u ds
theorem OLL.isLL {w : World} {B : Nat} {v : Value} {C : List (List Wr)} (h : OLL w B v C) : IsLL w v C := by
  obtain ⟨us, h1, h2, h3⟩ := h
  refine ⟨us, h1.isG, h2, fun i ds hi => ?_⟩
  obtain ⟨u, k1, k2⟩ := h3 i ds hi
  have := k2.isK wrE_ok
  obtain ⟨x, c, rfl⟩ := this.len
  exact ⟨x, c, k1, this⟩
theorem OLL.le {w : World} {B B' : Nat} {v : Value} {C : List (List Wr)} (h : OLL w B v C) (hb : B' ≤ B) : OLL w B' v C := by
  obtain ⟨us, h1, h2, h3⟩ := h
  refine ⟨us, h1.le hb, h2, fun i ds hi => ?_⟩
  obtain ⟨u, k1, k2⟩ := h3 i ds hi
  exact ⟨u, k1, k2.le hb⟩
theorem OLL.later {w w' : World} {B : Nat} {v : Value} {C : List (List Wr)} (h : OLL w B v C) (hb : Below w.heap.size w w') : OLL w' B v C := by
  obtain ⟨us, h1, h2, h3⟩ := h
  refine ⟨us, h1.keep hb, h2, fun i ds hi => ?_⟩
  obtain ⟨u, k1, k2⟩ := h3 i ds hi
  exact ⟨u, k1, k2.keep hb⟩
theorem OLL.keeps {w w' : World} {B : Nat} {v : Value} {C : List (List Wr)} {F : List Nat} (h : OLL w B v C) (hk : Keep F w w') (hF : ∀ f ∈ F, f < B) : OLL w' B v C := by
  obtain ⟨us, h1, h2, h3⟩ := h
  refine ⟨us, h1.keepsF hk (fun q hq h9 => ?_), h2, fun i ds hi => ?_⟩
  · have := (h1.lt q hq).1
    have := hF q h9
    omega
  · obtain ⟨u, k1, k2⟩ := h3 i ds hi
    refine ⟨u, k1, k2.keeps hk (fun q hq h9 => ?_)⟩
    have := (World.ownsRow.lt k2 q hq).1
    have := hF q h9
    omega
theorem CutG.oll {W : World} {B : Nat} {v : Value} {C : List (List Wr)} (h : CutG W B v C) : OLL W B v C := by
  obtain ⟨us, T, h1, h2, h3, h4⟩ := h
  refine ⟨us, h1.isG h2, h3, fun i ds hi => ?_⟩
  obtain ⟨u, k1, k2⟩ := h4 i ds hi
  exact ⟨u, k1, h1.isK k2⟩
/-- append(out, nil) -/
theorem CutG.grow {W : World} {B : Nat} {xv : Option Addr} {nv cv : Nat} {C : List (List Wr)} (h : CutG W B (.slice xv nv cv) C) (hn : C.length = nv) (hl : (nv + 1) * 24 ≤ 140737488355328) :
    ∃ g c' w', (Builtin.append_ #[24, 24] 24 #[.slice xv nv cv, .slice (some ⟨W.heap.size, 0, none⟩) 1 1]).run Try.prog (W.alloc (.cells #[.slice none 0 0] 22)) = .ok (.slice (some ⟨g, 0, none⟩) (nv + 1) c') w' ∧ CutG w' B (.slice (some ⟨g, 0, none⟩) (nv + 1) c') (C ++ [[]]) ∧ Below B W w' := by
  obtain ⟨us, T, h1, h2, h3, h4⟩ := h
  have hal := below_alloc W (.cells #[.slice none 0 0] 22)
  have g1 := h1.later hal
  obtain ⟨g, c', w', hr, hO, hK, hat⟩ := apLies eltLL (W.alloc (.cells #[.slice none 0 0] 22)) B xv nv cv us [.slice none 0 0] W.heap.size 1 24 (g1.isG h2) (by omega) rfl (fun j u hu => by
      rw [cell_of_row _ _ j _ _ _ (heap_alloc_last W _)]
      simpa using hu) (fun u hu => by simp at hu; subst hu; rfl) (by omega) g1.size (by omega) (by unfold maxLen; omega)
  have g2 := (g1.putG h2 hK hO (fun q hq => by
    have : q = g := by simpa [Value.ownBlock] using hq.symm
    subst this
    rcases hat with h9 | h9
    · exact .inl h9
    · exact .inr h9)).1
  have g3 := g2.newK (E := wrE) (C.length + 1) (v := .slice none 0 0) (ds := []) (Below.refl _ _) (OwnK.nil _ _ _)
  refine ⟨g, c', w', hr, ⟨us ++ [.slice none 0 0], _, g3, ?_, by rw [List.length_append, List.length_append, h3]; rfl, fun m ds hm => ?_⟩, (hal.mono h1.size).trans (hK.below (fun q hq => ((g1.isG h2).lt q (by simpa using hq)).1) g1.size)⟩
  · rw [updT_ne _ _ _ _ (by omega), updT_same]
  · by_cases hmc : m < C.length
    · rw [List.getElem?_append_left hmc] at hm
      obtain ⟨u, k1, k2⟩ := h4 m ds hm
      refine ⟨u, by rw [List.getElem?_append_left (by omega)]; exact k1, ?_⟩
      rw [updT_ne _ _ _ _ (by omega), updT_ne _ _ _ _ (by omega)]
      exact k2
    · have hl9 := (List.getElem?_eq_some_iff.1 hm).1
      rw [List.length_append, List.length_cons, List.length_nil] at hl9
      obtain rfl : m = C.length := by omega
      rw [List.getElem?_append_right (by omega), Nat.sub_self] at hm
      simp at hm
      subst hm
      exact ⟨.slice none 0 0, by rw [List.getElem?_append_right (by omega), h3, Nat.sub_self]; rfl, updT_same _ _ _⟩
/-- out[q] = append(out[q], x): what is left to be done behind the append -/
theorem cutg_last {W W1 : World} {B go m co q : Nat} {C : List (List Wr)} {us : List Value} {T : Nat → Option Th} {u u' : Value} {dl dl' : List Wr} (h1 : Ga W B T) (h2 : T 0 = some (thG 22 B (.slice (some ⟨go, 0, none⟩) m co) us)) (h3 : us.length = C.length) (h4 : ∀ (m : Nat) ds, C[m]? = some ds → ∃ u, us[m]? = some u ∧ T (m + 1) = some (thK wrE B u ds)) (h5 : T (q + 1) = some (thK wrE B u dl)) (hq : q < C.length)
    (hK : Keep u.ownBlock.toList W W1) (hO : OwnK wrE W1 B u' dl') (hat : ∀ g, u'.ownBlock = some g → u.ownBlock = some g ∨ W.heap.size ≤ g) : (∃ v, W1.cell? ⟨go, q, none⟩ = some v) ∧ W1.frozen? ⟨go, q, none⟩ = false ∧ CutG (W1.setCell ⟨go, q, none⟩ u') B (.slice (some ⟨go, 0, none⟩) m co) (C.set q dl') ∧ Below B W (W1.setCell ⟨go, q, none⟩ u') := by
  have g1 := (h1.putK h5 hK hO hat).1
  have h2' : updT T (q + 1) (thK wrE B u' dl') 0 = some (thG 22 B (.slice (some ⟨go, 0, none⟩) m co) us) := by rw [updT_ne _ _ _ _ (by omega)]; exact h2
  have oO := g1.isG h2'
  obtain ⟨oP, hgr⟩ := oO.put q u'
  have g2 := (g1.putG h2' (Keep.of_grown hgr (fun z hz => by cases hz; simp [Value.ownBlock])) oP (fun z hz => .inl hz)).1
  refine ⟨⟨_, oO.cell q _ (List.getElem?_eq_getElem (by omega))⟩, oO.frozen q, ⟨us.set q u', _, g2, updT_same _ _ _, by rw [List.length_set, List.length_set, h3], fun z ds hz => ?_⟩, (hK.below (fun z hz => (World.ownsRow.lt (h1.isK h5) z (by simpa using hz)).1) h1.size).trans (oO.below hgr g1.size)⟩
  by_cases e : z = q
  · subst e
    rw [List.getElem?_set_self (by omega)] at hz
    cases hz
    exact ⟨u', by rw [List.getElem?_set_self (by omega)], by rw [updT_ne _ _ _ _ (by omega), updT_same]⟩
  · rw [List.getElem?_set_ne (fun h => e h.symm)] at hz
    obtain ⟨v, k1, k2⟩ := h4 z ds hz
    exact ⟨v, by rw [List.getElem?_set_ne (fun h => e h.symm)]; exact k1, by rw [updT_ne _ _ _ _ (by omega), updT_ne _ _ _ _ (by omega)]; exact k2⟩
theorem wrap26 (m : Nat) (h : m ≤ 1954687338267) : IntKind.i64.wrap (m : Int) = (m : Int) := by simp [IntKind.wrap, IntKind.bits, IntKind.signed]; omega
theorem cutW_nil : cutW [] = [] := rfl
theorem cutW_mem (S : List Wr) (d : List Wr) (h : d ∈ cutW S) : d.length ≤ 8 := by
  obtain ⟨i, hi⟩ := List.mem_iff_getElem?.1 h
  have hl := (List.getElem?_eq_some_iff.1 hi).1
  rw [cutW_len] at hl
  rw [cutW_get S i hl] at hi
  cases hi
  rw [List.length_take]; omega
set_option linter.unusedSimpArgs false in
set_option maxRecDepth 100000 in
set_option maxHeartbeats 16000000 in
theorem refCut26_any (l : List Wr) (x0 : Option Addr) (n c : Nat) (w : World) (hn : l.length = n) (hl : IsK wrE w (.slice x0 n c) l) (hn47 : (n + 1) * 72 ≤ 140737488355328) :
    Calls Try.prog 12 #[.slice x0 n c] w fun e w' => ∃ y k c', e = .returned (.slice y k c') ∧ nbW (srtW l).length = k ∧ OLL w' w.heap.size (.slice y k c') (cutW (srtW l)) ∧ Below w.heap.size w w' := by
  have hSo := refSorted26_any l x0 n c w hn hl hn47
  have hsl := srtW_len l
  obtain ⟨S, hS⟩ : ∃ q, srtW l = q := ⟨_, rfl⟩
  rw [hS] at hSo hsl ⊢
  go_enter Try.func12, Try.ntmps12
  go_wp2_with fail
  refine hSo.mono ?_
  rintro e w1 ⟨ys, ns, cs, rfl, hns, oS, b1⟩
  clear hSo
  have HW : Hid (IsK wrE w1 (.slice ys ns cs) S ∧ S.length = ns ∧ ns ≤ n ∧ Below w.heap.size w w1 ∧ (n + 1) * 72 ≤ 140737488355328) := ⟨oS.isK wrE_ok, hns, by omega, b1, hn47⟩
  clear hns oS hsl b1 hl hn hS
  obtain ⟨B, HBe⟩ : ∃ z, Hid (w1.heap.size = z) := ⟨_, rfl⟩
  go_wp2_with fail
  go_loopw [4, 5] (fun v iv wr => ∃ (i : Nat) (y : Option Addr) (m co : Nat), i ≤ ns ∧ iv = .int .i64 i ∧ v = .slice y m co ∧ nbW i = m ∧ CutG wr B (.slice y m co) (cutW (S.take i)) ∧ Below w1.heap.size w1 wr) (fun _ iv _ => ns - (intOf iv).toNat)
  case atStart => exact ⟨0, none, 0, 0, by omega, rfl, rfl, rfl, by rw [List.take_zero, cutW_nil]; exact CutG.start (Nat.le_of_eq HBe.out.symm), Below.refl _ _⟩
  case round =>
    obtain ⟨i, y, m, co, hi, rfl, rfl, hm, hC, hB⟩ := hrel
    by_cases hlt : i < ns
    · have i0 : (0 : Int) ≤ (i : Int) := by omega
      have i1 : (i : Int) < (ns : Int) := by omega
      have hz9 := HW.out.2.2.1
      have hz8 := HW.out.2.2.2.2
      have hz7 : (i : Int) + 1 ≤ 1954687338267 := by omega
      obtain ⟨x9, hx⟩ : ∃ d, S[i]? = some d := ⟨_, List.getElem?_eq_getElem (by have := HW.out.2.1; omega)⟩
      obtain ⟨gs, os, rfl, hgs, hr0⟩ := HW.out.1.at i x9 hx
      have HXA : Hid (∀ W, Below w1.heap.size w1 W → rgOk W gs (os + i * 65) 65 = true ∧ rg W gs (os + i * 65) 65 = wrA x9) := fun W hW => wr_rg26 (range_later hr0 hW)
      have FI : Hid ((0 : Int) ≤ (i : Int) ∧ (i : Int) < (ns : Int)) := ⟨i0, i1⟩
      have htl : (S.take i).length = i := by rw [List.length_take]; have := HW.out.2.1; omega
      have hts : S.take (i + 1) = S.take i ++ [x9] := by rw [List.take_add_one, hx]; rfl
      by_cases h8 : i % 8 = 0
      · have HEQ0 : Hid (cutW (S.take (i + 1)) = (cutW (S.take i) ++ [[]]).set m [x9]) := by
          show _ = _
          rw [hts, cutW_new _ _ (by rw [htl]; exact h8), List.set_append_right _ _ (by rw [cutW_len, htl]; omega), cutW_len, htl, hm, Nat.sub_self]
          rfl
        have hmn : m ≤ n := by rw [← hm]; unfold nbW; omega
        have hm2 : nbW (i + 1) = m + 1 := by rw [← hm]; unfold nbW; omega
        have hcl : (cutW (S.take i)).length = m := by rw [cutW_len, htl]; exact hm
        obtain ⟨go, c7, w7, hr, hC7, b7⟩ := hC.grow hcl (by omega)
        have HCX : Hid (∀ dl, (cutW (S.take i) ++ [[]])[m]? = some dl → dl = []) := fun dl hdl => by
          rw [List.getElem?_append_right (by omega), hcl, Nat.sub_self] at hdl
          simpa using hdl.symm
        have h81 : ((i : Int) % 8) = 0 := by omega
        have HDL : Hid (∀ d ∈ cutW (S.take i) ++ [[]], d.length ≤ 8) := fun d hd => by
          rcases List.mem_append.1 hd with hd | hd
          · exact cutW_mem _ d hd
          · simp at hd; subst hd; simp
        have HBW : Hid (Below w1.heap.size w1 w7) := hB.trans (b7.mono (Nat.le_of_eq HBe.out))
        obtain ⟨C, hCd⟩ : ∃ z, cutW (S.take i) ++ [[]] = z := ⟨_, rfl⟩
        have hCl : (cutW (S.take i) ++ [[]]).length = m + 1 := by rw [List.length_append, hcl]; rfl
        obtain ⟨M1, hM1⟩ : ∃ z, m + 1 = z := ⟨_, rfl⟩
        rw [hCd] at hC7 HEQ0 HCX HDL hCl
        rw [hM1] at hC7 hCl hm2 hr
        have HEQ : Hid (∀ dl, C[m]? = some dl → cutW (S.take (i + 1)) = C.set m (dl ++ [x9])) := fun dl hdl => by rw [HCX.out dl hdl]; exact HEQ0.out
        have HM2 : Hid (nbW (i + 1) = M1) := hm2
        have HQ : Hid ((M1 : Int) - 1 = (m : Int) ∧ IntKind.i64.wrap (m : Int) = (m : Int)) := ⟨by omega, wrap26 m (by omega)⟩
        have FQ : Hid ((0 : Int) ≤ (m : Int) ∧ (m : Int) < (M1 : Int)) := by show _ ∧ _; omega
        have hC := hC7
        clear hC7 hB hcl hts htl hCd b7 HCX HEQ0 hm2
        go_upto_region 8 with (at_builtin; refine wpL_appG 24 rfl _ _ rfl _ w7 (by exact hr) ?_)
        clear hr
        obtain ⟨us, T, hGa, hT0, hul, hTm⟩ := hC
        obtain ⟨dl, hdl⟩ : ∃ d, C[m]? = some d := ⟨_, List.getElem?_eq_getElem (by have := HQ.out; omega)⟩
        obtain ⟨ue, hue, hTe⟩ := hTm m dl hdl
        have oE := hGa.isK hTe
        obtain ⟨xe, ce, rfl⟩ := (oE.isK wrE_ok).len
        obtain ⟨ne, hne⟩ : ∃ z, dl.length = z := ⟨_, rfl⟩
        rw [hne] at oE hTe hue
        have oO := hGa.isG hT0
        have k1 := oO.cell m _ hue
        have HE : Hid (OwnK wrE w7 B (.slice xe ne ce) dl ∧ dl.length = ne ∧ ne ≤ 8 ∧ B ≤ w7.heap.size) := ⟨oE, hne, by have := HDL.out dl (List.mem_of_getElem? hdl); omega, hGa.size⟩
        have HOB : Hid (∀ q, (Value.slice xe ne ce).ownBlock = some q → q < w7.heap.size) := fun q hq => (World.ownsRow.lt oE q hq).2
        have HG : Hid (Ga w7 B T ∧ T 0 = some (thG 22 B (.slice (some ⟨go, 0, none⟩) M1 c7) us) ∧ us.length = C.length ∧ (∀ (m : Nat) ds, C[m]? = some ds → ∃ u, us[m]? = some u ∧ T (m + 1) = some (thK wrE B u ds)) ∧ T (m + 1) = some (thK wrE B (.slice xe ne ce) dl) ∧ C[m]? = some dl) := ⟨hGa, hT0, hul, hTm, hTe, hdl⟩
        have HX : Hid (∀ X, Below w7.heap.size w7 X → rgOk X gs (os + i * 65) 65 = true ∧ rg X gs (os + i * 65) 65 = wrA x9) := fun X hX => HXA.out X (HBW.out.trans (hX.mono HBW.out.size))
        have HQL : Hid (m < C.length) := (List.getElem?_eq_some_iff.1 hdl).1
        clear hGa hT0 hul hTm hTe hdl hue oE oO hne hCl
        go_upto_region 8 with fail
        refine wp_reliesK (kokp26 (G := (Value.slice xe ne ce).ownBlock.toList)) 15 [4, 5, 6, 7, 8, 9, 10, 11, 12, 13, 14] [Fx (.slice (some ⟨go, 0, none⟩) M1 c7), Fx (.slice (some ⟨go, 0, none⟩) M1 c7), Fx (.int .i64 (M1 : Int)), Fx (.int .i64 (m : Int)), Fx (.slice (some ⟨go, 0, none⟩) M1 c7), Fx (.slice (some ⟨go, 0, none⟩) M1 c7), Fx (.int .i64 (M1 : Int)), Fx (.int .i64 (m : Int)), Fx (.pointer (some ⟨go, m, none⟩)), Fx (.slice xe ne ce), Fx (.slice (some ⟨gs, os, none⟩) ns cs), Fx (.int .i64 (i : Int)), Fx (.pointer (some ⟨gs, os + i * 65, none⟩)), Fx (.agg (wrA x9)), fun v x => ∃ y, v = .slice (some ⟨y, 0, none⟩) 1 1 ∧ x.rangeAt y 0 (wrE.enc x9) ∧ w7.heap.size ≤ y ∧ y < x.heap.size, fun v x => ∃ g' c', v = .slice (some ⟨g', 0, none⟩) (ne + 1) c' ∧ OwnK wrE x B (.slice (some ⟨g', 0, none⟩) (ne + 1) c') (dl ++ [x9]) ∧ ((Value.slice xe ne ce).ownBlock = some g' ∨ w7.heap.size ≤ g'), Fx (.pointer (some ⟨go, m, none⟩))] (by simp) (by kernel_rfl) (by kernel_rfl) (by kernel_rfl) ?_ ?_ ?_ ?_
        · repeat' (first | exact all_nil | apply all_cons)
          all_goals intro v y y' hv hb
          all_goals first | exact Fx_mono _ _ _ _ hv hb | (obtain ⟨y9, h1, h2, h3, h4⟩ := hv; exact ⟨y9, h1, range_later h2 hb, h3, Nat.lt_of_lt_of_le h4 hb.size⟩) | (obtain ⟨g', c', h1, h2, h3⟩ := hv; exact ⟨g', c', h1, OwnK.keep h2 hb, h3⟩)
        · simp only [List.eraseIdx]
          repeat' (first | exact all_nil | apply all_cons)
          all_goals intro v y y' hv hb
          all_goals first | exact (show Fx _ _ _ from hv) | (obtain ⟨y9, h1, h2, h3, h4⟩ := hv; exact ⟨y9, h1, range_block h2 (hb.block y9 h4 (fun hm => by have := HOB.out y9 (by simpa using hm); omega)), h3, Nat.lt_of_lt_of_le h4 hb.size⟩)
        · refine ⟨?_, ?_, ?_, ?_, ?_, ?_, ?_, ?_, ?_, ?_, ?_, ?_, ?_, ?_, ?_, ?_, ?_, trivial⟩
          all_goals
            intro ρ x hk hp ρc ρg ρf ho hd
            first | (replace hp := hp (by decide)) | clear hp
            have o3 : ρ (.tmp 3) = .slice (some ⟨gs, os, none⟩) ns cs := ho 3 rfl
            have o4 : ρ (.tmp 4) = .slice (some ⟨go, 0, none⟩) M1 c7 := ho 4 rfl
            have o5 : ρ (.tmp 5) = .int .i64 (i : Int) := ho 5 rfl
            clear ho
            try (have q1 := cell_later hp k1)
            try (have hx9 := HX.out x hp)
            try (obtain ⟨rg1, rg2⟩ := hx9)
            simp only [depsR, depR, slotR, Fx, List.getElem?_cons_succ, List.getElem?_cons_zero, Region.binds, forall_const] at hd
            simp only [guardR, Nat.reduceBEq, cond_true, cond_false]
            go_split_ands
          · go_simp
          · go_simp
          · go_simp
          · obtain ⟨z1, z3⟩ := HQ.out
            go_simp
          · go_simp
          · go_simp
          · go_simp
          · obtain ⟨z1, z3⟩ := HQ.out
            go_simp
          · obtain ⟨z1, z2⟩ := FQ.out
            go_simp
          · go_simp
          · go_simp
          · go_simp
          · obtain ⟨z1, z2⟩ := FI.out
            go_simp
          · go_simp
          · rw [execOp_wrBS]
            simp only [*, run_wrBS, okUpon_value]
            exact ⟨⟨_, rfl, newWr26 x _, hp.size, by simp⟩, below_alloc _ _⟩
          · have oP := HE.out.1.keep hp
            obtain ⟨⟨y, hy0, hy1, hy2, hy3⟩, hd1⟩ : (∃ y, ρ (.tmp 34) = .slice (some ⟨y, 0, none⟩) 1 1 ∧ x.rangeAt y 0 (wrE.enc x9) ∧ w7.heap.size ≤ y ∧ y < x.heap.size) ∧ ρ (.tmp 29) = .slice xe ne ce := by first | exact ⟨hd.2.1, hd.1⟩ | (constructor <;> assumption)
            obtain ⟨g9, c9, x8, hr9, o1, o2, o3, o4⟩ := run_app1K wrE_ok x B y (.slice xe ne ce) dl x9 22 oP hy1 hy3 (by rw [HE.out.2.1]; have := HE.out.2.2.1; show (ne + 1) * 72 ≤ _; omega) (by rw [HE.out.2.1]; have := HE.out.2.2.1; unfold maxLen; omega) (Nat.le_trans HE.out.2.2.2 hp.size)
            rw [HE.out.2.1] at hr9 o1
            have hT : wrE.S = 22 := rfl
            rw [hT] at hr9
            rw [BigFrame.execOp_builtin, BigFrame.builtin_append]
            simp only [List.map_toArray, List.map_cons, List.map_nil, hy0, hd1, hr9, Sem.run_bind, Result.andThen_ok, Sem.run_pure, okUponK_value]
            exact ⟨⟨g9, c9, rfl, o1, by rcases o4 with o4 | o4; exact .inl o4; exact .inr (by have := hp.size; omega)⟩, Keep.of_grown o3 (fun q hq => by rw [hq]; simp)⟩
          · obtain ⟨z1, z2⟩ := FQ.out
            go_simp
        · intro vs w6 hk hw
          simp only [owed, Fx] at hw
          obtain ⟨e0, e1, e2, e3, e4, e5, e6, e7, e8, e9, e10, e11, e12, e13, ⟨y8, e14, -⟩, ⟨g, c2, e15, hO6, hat⟩, e16, -⟩ := hw
          simp only [List.length_cons, List.length_nil, List.take_succ_cons, List.take_zero, List.drop_succ_cons, List.drop_zero, asg, List.cons_append, List.nil_append, e0, e1, e2, e3, e4, e5, e6, e7, e8, e9, e10, e11, e12, e13, e14, e15, e16]
          clear e0 e1 e2 e3 e4 e5 e6 e7 e8 e9 e10 e11 e12 e13 e14 e15 e16
          have HAT : Hid (∀ z, (Value.slice (some ⟨g, 0, none⟩) (ne + 1) c2).ownBlock = some z → (Value.slice xe ne ce).ownBlock = some z ∨ w7.heap.size ≤ z) := fun z hz => by
            have : z = g := by simpa [Value.ownBlock] using hz.symm
            subst this
            exact hat
          obtain ⟨⟨v0, k0⟩, f0, hC9, b9⟩ := cutg_last HG.out.1 HG.out.2.1 HG.out.2.2.1 HG.out.2.2.2.1 HG.out.2.2.2.2.1 HQL.out hk hO6 HAT.out
          have HC9 : Hid (CutG (w6.setCell ⟨go, m, none⟩ (.slice (some ⟨g, 0, none⟩) (ne + 1) c2)) B (.slice (some ⟨go, 0, none⟩) M1 c7) (cutW (S.take (i + 1)))) := by
            show CutG _ _ _ _
            rw [HEQ.out dl HG.out.2.2.2.2.2]
            exact hC9
          have HB9 : Hid (Below w1.heap.size w1 (w6.setCell ⟨go, m, none⟩ (.slice (some ⟨g, 0, none⟩) (ne + 1) c2))) := HBW.out.trans (b9.mono (Nat.le_of_eq HBe.out))
          clear hk hO6 hat hC9 b9 HX k1
          go_wp2
          go_roundw
          case rel => exact ⟨i + 1, _, M1, c7, by have := FI.out; omega, by go_num, rfl, HM2.out, HC9.out, HB9.out⟩
          case measure => have := FI.out; simp [intOf]; omega
      · have h80 : ¬ ((i : Int) % 8) = 0 := by omega
        have h81 : (((i : Int) % 8) == 0) = false := by simp; omega
        obtain ⟨q, hq⟩ : ∃ z, m = z + 1 := ⟨m - 1, by rw [← hm]; unfold nbW; omega⟩
        have HEQ : Hid (∀ dl, (cutW (S.take i))[q]? = some dl → cutW (S.take (i + 1)) = (cutW (S.take i)).set q (dl ++ [x9])) := fun dl hdl => by
          have e1 : nbW (S.take i).length - 1 = q := by rw [htl, hm, hq]; rfl
          rw [hts, cutW_more _ _ (by rw [htl]; exact h8), e1, hdl]
          rfl
        have HM2 : Hid (nbW (i + 1) = m) := by show _ = _; rw [← hm]; unfold nbW; omega
        have hmn : m ≤ n := by rw [← hm]; unfold nbW; omega
        have hCl : (cutW (S.take i)).length = m := by rw [cutW_len, htl]; exact hm
        have HDL : Hid (∀ d ∈ cutW (S.take i), d.length ≤ 8) := cutW_mem _
        have HBW : Hid (Below w1.heap.size w1 wr) := hB
        have HQ : Hid ((m : Int) - 1 = (q : Int) ∧ IntKind.i64.wrap (q : Int) = (q : Int)) := ⟨by omega, wrap26 q (by omega)⟩
        have FQ : Hid ((0 : Int) ≤ (q : Int) ∧ (q : Int) < (m : Int)) := by show _ ∧ _; omega
        obtain ⟨C, hCd⟩ : ∃ z, cutW (S.take i) = z := ⟨_, rfl⟩
        rw [hCd] at hC HEQ hCl HDL
        clear hB hts htl hCd hq
        obtain ⟨us, T, hGa, hT0, hul, hTm⟩ := hC
        obtain ⟨dl, hdl⟩ : ∃ d, C[q]? = some d := ⟨_, List.getElem?_eq_getElem (by have := HQ.out; omega)⟩
        obtain ⟨ue, hue, hTe⟩ := hTm q dl hdl
        have oE := hGa.isK hTe
        obtain ⟨xe, ce, rfl⟩ := (oE.isK wrE_ok).len
        obtain ⟨ne, hne⟩ : ∃ z, dl.length = z := ⟨_, rfl⟩
        rw [hne] at oE hTe hue
        have oO := hGa.isG hT0
        obtain ⟨go, co', hv, -⟩ := oO.form (by intro h0; rw [h0] at hue; simp at hue)
        rw [hul, hCl] at hv
        simp only [Value.slice.injEq] at hv
        obtain ⟨rfl, -, rfl⟩ := hv
        have k1 := oO.cell q _ hue
        have HE : Hid (OwnK wrE wr B (.slice xe ne ce) dl ∧ dl.length = ne ∧ ne ≤ 8 ∧ B ≤ wr.heap.size) := ⟨oE, hne, by have := HDL.out dl (List.mem_of_getElem? hdl); omega, hGa.size⟩
        have HOB : Hid (∀ q, (Value.slice xe ne ce).ownBlock = some q → q < wr.heap.size) := fun q hq => (World.ownsRow.lt oE q hq).2
        have HG : Hid (Ga wr B T ∧ T 0 = some (thG 22 B (.slice (some ⟨go, 0, none⟩) m co) us) ∧ us.length = C.length ∧ (∀ (m : Nat) ds, C[m]? = some ds → ∃ u, us[m]? = some u ∧ T (m + 1) = some (thK wrE B u ds)) ∧ T (q + 1) = some (thK wrE B (.slice xe ne ce) dl) ∧ C[q]? = some dl) := ⟨hGa, hT0, hul, hTm, hTe, hdl⟩
        have HX : Hid (∀ X, Below wr.heap.size wr X → rgOk X gs (os + i * 65) 65 = true ∧ rg X gs (os + i * 65) 65 = wrA x9) := fun X hX => HXA.out X (HBW.out.trans (hX.mono HBW.out.size))
        have HQL : Hid (q < C.length) := (List.getElem?_eq_some_iff.1 hdl).1
        clear hGa hT0 hul hTm hTe hdl hue oE oO hne hCl
        go_upto_region 8 with fail
        refine wp_reliesK (kokp26 (G := (Value.slice xe ne ce).ownBlock.toList)) 15 [4, 5, 6, 7, 8, 9, 10, 11, 12, 13, 14] [Fx (.slice (some ⟨go, 0, none⟩) m co), Fx (.slice (some ⟨go, 0, none⟩) m co), Fx (.int .i64 (m : Int)), Fx (.int .i64 (q : Int)), Fx (.slice (some ⟨go, 0, none⟩) m co), Fx (.slice (some ⟨go, 0, none⟩) m co), Fx (.int .i64 (m : Int)), Fx (.int .i64 (q : Int)), Fx (.pointer (some ⟨go, q, none⟩)), Fx (.slice xe ne ce), Fx (.slice (some ⟨gs, os, none⟩) ns cs), Fx (.int .i64 (i : Int)), Fx (.pointer (some ⟨gs, os + i * 65, none⟩)), Fx (.agg (wrA x9)), fun v x => ∃ y, v = .slice (some ⟨y, 0, none⟩) 1 1 ∧ x.rangeAt y 0 (wrE.enc x9) ∧ wr.heap.size ≤ y ∧ y < x.heap.size, fun v x => ∃ g' c', v = .slice (some ⟨g', 0, none⟩) (ne + 1) c' ∧ OwnK wrE x B (.slice (some ⟨g', 0, none⟩) (ne + 1) c') (dl ++ [x9]) ∧ ((Value.slice xe ne ce).ownBlock = some g' ∨ wr.heap.size ≤ g'), Fx (.pointer (some ⟨go, q, none⟩))] (by simp) (by kernel_rfl) (by kernel_rfl) (by kernel_rfl) ?_ ?_ ?_ ?_
        · repeat' (first | exact all_nil | apply all_cons)
          all_goals intro v y y' hv hb
          all_goals first | exact Fx_mono _ _ _ _ hv hb | (obtain ⟨y9, h1, h2, h3, h4⟩ := hv; exact ⟨y9, h1, range_later h2 hb, h3, Nat.lt_of_lt_of_le h4 hb.size⟩) | (obtain ⟨g', c', h1, h2, h3⟩ := hv; exact ⟨g', c', h1, OwnK.keep h2 hb, h3⟩)
        · simp only [List.eraseIdx]
          repeat' (first | exact all_nil | apply all_cons)
          all_goals intro v y y' hv hb
          all_goals first | exact (show Fx _ _ _ from hv) | (obtain ⟨y9, h1, h2, h3, h4⟩ := hv; exact ⟨y9, h1, range_block h2 (hb.block y9 h4 (fun hm => by have := HOB.out y9 (by simpa using hm); omega)), h3, Nat.lt_of_lt_of_le h4 hb.size⟩)
        · refine ⟨?_, ?_, ?_, ?_, ?_, ?_, ?_, ?_, ?_, ?_, ?_, ?_, ?_, ?_, ?_, ?_, ?_, trivial⟩
          all_goals
            intro ρ x hk hp ρc ρg ρf ho hd
            first | (replace hp := hp (by decide)) | clear hp
            have o3 : ρ (.tmp 3) = .slice (some ⟨gs, os, none⟩) ns cs := ho 3 rfl
            have o4 : ρ (.tmp 4) = .slice (some ⟨go, 0, none⟩) m co := ho 4 rfl
            have o5 : ρ (.tmp 5) = .int .i64 (i : Int) := ho 5 rfl
            clear ho
            try (have q1 := cell_later hp k1)
            try (have hx9 := HX.out x hp)
            try (obtain ⟨rg1, rg2⟩ := hx9)
            simp only [depsR, depR, slotR, Fx, List.getElem?_cons_succ, List.getElem?_cons_zero, Region.binds, forall_const] at hd
            simp only [guardR, Nat.reduceBEq, cond_true, cond_false]
            go_split_ands
          · go_simp
          · go_simp
          · go_simp
          · obtain ⟨z1, z3⟩ := HQ.out
            go_simp
          · go_simp
          · go_simp
          · go_simp
          · obtain ⟨z1, z3⟩ := HQ.out
            go_simp
          · obtain ⟨z1, z2⟩ := FQ.out
            go_simp
          · go_simp
          · go_simp
          · go_simp
          · obtain ⟨z1, z2⟩ := FI.out
            go_simp
          · go_simp
          · rw [execOp_wrBS]
            simp only [*, run_wrBS, okUpon_value]
            exact ⟨⟨_, rfl, newWr26 x _, hp.size, by simp⟩, below_alloc _ _⟩
          · have oP := HE.out.1.keep hp
            obtain ⟨⟨y, hy0, hy1, hy2, hy3⟩, hd1⟩ : (∃ y, ρ (.tmp 34) = .slice (some ⟨y, 0, none⟩) 1 1 ∧ x.rangeAt y 0 (wrE.enc x9) ∧ wr.heap.size ≤ y ∧ y < x.heap.size) ∧ ρ (.tmp 29) = .slice xe ne ce := by first | exact ⟨hd.2.1, hd.1⟩ | (constructor <;> assumption)
            obtain ⟨g9, c9, x8, hr9, o1, o2, o3, o4⟩ := run_app1K wrE_ok x B y (.slice xe ne ce) dl x9 22 oP hy1 hy3 (by rw [HE.out.2.1]; have := HE.out.2.2.1; show (ne + 1) * 72 ≤ _; omega) (by rw [HE.out.2.1]; have := HE.out.2.2.1; unfold maxLen; omega) (Nat.le_trans HE.out.2.2.2 hp.size)
            rw [HE.out.2.1] at hr9 o1
            have hT : wrE.S = 22 := rfl
            rw [hT] at hr9
            rw [BigFrame.execOp_builtin, BigFrame.builtin_append]
            simp only [List.map_toArray, List.map_cons, List.map_nil, hy0, hd1, hr9, Sem.run_bind, Result.andThen_ok, Sem.run_pure, okUponK_value]
            exact ⟨⟨g9, c9, rfl, o1, by rcases o4 with o4 | o4; exact .inl o4; exact .inr (by have := hp.size; omega)⟩, Keep.of_grown o3 (fun q hq => by rw [hq]; simp)⟩
          · obtain ⟨z1, z2⟩ := FQ.out
            go_simp
        · intro vs w6 hk hw
          simp only [owed, Fx] at hw
          obtain ⟨e0, e1, e2, e3, e4, e5, e6, e7, e8, e9, e10, e11, e12, e13, ⟨y8, e14, -⟩, ⟨g, c2, e15, hO6, hat⟩, e16, -⟩ := hw
          simp only [List.length_cons, List.length_nil, List.take_succ_cons, List.take_zero, List.drop_succ_cons, List.drop_zero, asg, List.cons_append, List.nil_append, e0, e1, e2, e3, e4, e5, e6, e7, e8, e9, e10, e11, e12, e13, e14, e15, e16]
          clear e0 e1 e2 e3 e4 e5 e6 e7 e8 e9 e10 e11 e12 e13 e14 e15 e16
          have HAT : Hid (∀ z, (Value.slice (some ⟨g, 0, none⟩) (ne + 1) c2).ownBlock = some z → (Value.slice xe ne ce).ownBlock = some z ∨ wr.heap.size ≤ z) := fun z hz => by
            have : z = g := by simpa [Value.ownBlock] using hz.symm
            subst this
            exact hat
          obtain ⟨⟨v0, k0⟩, f0, hC9, b9⟩ := cutg_last HG.out.1 HG.out.2.1 HG.out.2.2.1 HG.out.2.2.2.1 HG.out.2.2.2.2.1 HQL.out hk hO6 HAT.out
          have HC9 : Hid (CutG (w6.setCell ⟨go, q, none⟩ (.slice (some ⟨g, 0, none⟩) (ne + 1) c2)) B (.slice (some ⟨go, 0, none⟩) m co) (cutW (S.take (i + 1)))) := by
            show CutG _ _ _ _
            rw [HEQ.out dl HG.out.2.2.2.2.2]
            exact hC9
          have HB9 : Hid (Below w1.heap.size w1 (w6.setCell ⟨go, q, none⟩ (.slice (some ⟨g, 0, none⟩) (ne + 1) c2))) := HBW.out.trans (b9.mono (Nat.le_of_eq HBe.out))
          clear hk hO6 hat hC9 b9 HX k1
          go_wp2
          go_roundw
          case rel => exact ⟨i + 1, _, m, co, by have := FI.out; omega, by go_num, rfl, HM2.out, HC9.out, HB9.out⟩
          case measure => have := FI.out; simp [intOf]; omega
    · obtain rfl : i = ns := by omega
      have i1 : ¬ (i : Int) < (i : Int) := by omega
      rw [List.take_of_length_le (by have := HW.out.2.1; omega)] at hC
      have HC : Hid (OLL wr w.heap.size (.slice y m co) (cutW S)) := hC.oll.le (by have h9 := HBe.out; have h8 := HW.out.2.2.2.1.size; omega)
      have HB : Hid (Below w.heap.size w wr) := HW.out.2.2.2.1.trans (hB.mono HW.out.2.2.2.1.size)
      have HN : Hid (nbW S.length = m) := by show _ = _; rw [HW.out.2.1]; exact hm
      clear hC hB hm
      go_wp2
      go_ret
      exact ⟨_, _, _, rfl, HN.out, HC.out, HB.out⟩
end Go.Proofs.Ytmbkkdojjfdliaa
