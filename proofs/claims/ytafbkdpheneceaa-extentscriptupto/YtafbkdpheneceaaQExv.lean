import Derived.Test.YtafbkdpheneceaaQExu
import Derived.Test.YtafbkdpheneceaaQExtR
namespace Go.Proofs.Ytafbkdpheneceaa
open Go.RowKit

/-! assayref08's Ranges, Lowest, Copy -/
theorem newPr (w : World) (p : Pr) : (w.alloc (.cells (prA p) 33)).rangeAt w.heap.size 0 (prE.enc p) := by
  intro j u hu
  rw [Nat.zero_add, cell_of_row _ _ j _ _ _ (heap_alloc_last w _)]
  rw [prE_enc, Array.getElem?_toList] at hu; exact hu
/-- append(l, [2]int{..}) -/
theorem app1P (W : World) (B : Nat) (xv : Option Addr) (nv cv : Nat) (ds : List Pr) (p : Pr) (ty : TypeId) (h : OwnK prE W B (.slice xv nv cv) ds) (hn : ds.length = nv) (hB : B ≤ W.heap.size) (hl : nv ≤ 100000) :
    ∃ g c' w', (Builtin.append_ #[31, 31] ty #[.slice xv nv cv, .slice (some ⟨W.heap.size, 0, none⟩) 1 1]).run Try.prog (W.alloc (.cells (prA p) 33)) = .ok (.slice (some ⟨g, 0, none⟩) (nv + 1) c') w' ∧ OwnK prE w' B (.slice (some ⟨g, 0, none⟩) (nv + 1) c') (ds ++ [p]) ∧ Below B W w' := by
  subst hn
  have hA := below_alloc W (.cells (prA p) 33)
  obtain ⟨g, c', w', hr, hO, -, hg, -⟩ := run_app1K prE_ok (W.alloc (.cells (prA p) 33)) B W.heap.size (.slice xv ds.length cv) ds p ty (h.keep hA) (newPr W p) (by simp) (by show (ds.length + 1) * 16 ≤ _; omega) (by unfold maxLen; omega) (by simp; omega)
  exact ⟨g, c', w', hr, hO, (hA.mono hB).trans ((h.keep hA).below hg (by simp; omega))⟩
set_option linter.unusedSimpArgs false in
set_option maxRecDepth 100000 in
set_option maxHeartbeats 1000000 in
theorem refRanges8 (w : World) (v : Value) (st : XSt) (F : List Nat) (h : R8 w v st F) :
    Calls Try.prog 17 #[v] w fun e w' => ∃ y c, e = .returned (.slice y (xRuns st).length c) ∧ OwnK prE w' w.heap.size (.slice y (xRuns st).length c) (rI (xRuns st)) ∧ Below w.heap.size w w' := by
  obtain ⟨r, x, c, rfl, h1, h2, rfl, h4, h5, h6⟩ := h
  obtain ⟨e0, e1⟩ := R8.cells h1
  unfold xRuns
  obtain ⟨m, hm⟩ : ∃ m, st.hi - st.fr = m := ⟨_, rfl⟩
  rw [hm] at h2 e1 ⊢
  have hm4 : st.fr + m ≤ 1024 := by omega
  obtain ⟨f, hf⟩ : ∃ f, st.f = f := ⟨_, rfl⟩
  obtain ⟨fr, hfr⟩ : ∃ fr, st.fr = fr := ⟨_, rfl⟩
  rw [hf, hfr] at h2 ⊢
  rw [hfr] at e0 hm4
  clear h1 h4 hm hf hfr h5 h6
  go_enter Try.func17, Try.ntmps17
  go_wp2
  go_loopw [3, 4] (fun lv iv wr => ∃ (i : Nat) (xl : Option Addr) (cl : Nat), i ≤ m ∧ iv = .int .i64 i ∧ lv = .slice xl (runs f fr i).length cl ∧ OwnK prE wr w.heap.size (.slice xl (runs f fr i).length cl) (rI (runs f fr i)) ∧ Below w.heap.size w wr) (fun _ iv _ => m - (intOf iv).toNat)
  case atStart => exact ⟨0, none, 0, by omega, rfl, rfl, OwnK.nil _ _ _, Below.refl _ _⟩
  case round =>
    obtain ⟨i, xl, cl, hi, rfl, rfl, hO, hB⟩ := hrel
    have d0 := cell_later hB e0
    have d1 := cell_later hB e1
    by_cases hlt : i < m
    · have hlt' : (i : Int) < (m : Int) := by omega
      obtain ⟨g, c', hg, -⟩ := OwnG.form h2 (by intro hh; have := congrArg List.length hh; rw [fV_len] at this; simp at this; omega)
      rw [fV_len] at hg
      cases hg
      have d2 := cell_later hB (h2.cell i _ (fV_at _ _ _ _ hlt))
      have hsn := runs_snoc f i fr
      have hll : (runs f fr i).length ≤ 1024 := by
        rcases rises_len (runs_rises f i fr) with hz | hz
        · rw [hz]; simp
        · omega
      cases hfi : f (fr + i)
      · rw [hfi] at d2 hsn
        by_cases hext : ∃ j, i = j + 1 ∧ f (fr + j) = false
        · obtain ⟨j, hj, hfj⟩ := hext
          have hlast : ∃ q, (runs f fr i).getLast? = some q := by
            cases hq : (runs f fr i).getLast? with
            | none => rw [hj] at hq; rw [runs_none f fr j hq] at hfj; cases hfj
            | some q => exact ⟨q, rfl⟩
          obtain ⟨⟨qx, qn⟩, hq⟩ := hlast
          have htouch : qx + qn = fr + i := by
            rw [hj] at hq ⊢
            exact (runs_touch f fr j (qx, qn) hq).2 hfj
          rw [addR_last (fr + i) (runs f fr i) qx qn hq htouch] at hsn
          have hpos : 0 < (runs f fr i).length := by
            cases hz : runs f fr i with
            | nil => rw [hz] at hq; simp at hq
            | cons _ _ => simp
          have hat : (runs f fr i)[(runs f fr i).length - 1]? = some (qx, qn) := by rw [← List.getLast?_eq_getElem?]; exact hq
          have dj := cell_later hB (h2.cell j _ (fV_at _ _ _ j (by omega)))
          rw [hfj] at dj
          obtain ⟨L, hL⟩ : ∃ L, (runs f fr i).length = L := ⟨_, rfl⟩
          rw [hL] at hO hll hsn hpos hat ⊢
          obtain ⟨gl, rfl⟩ := slice_block hO (by rw [rI_len]; omega)
          obtain ⟨q, hqd⟩ : ∃ q, L - 1 = q := ⟨_, rfl⟩
          rw [hqd] at hsn hat
          obtain ⟨-, k2⟩ := pr_cells (hO.range prE_ok q _ (rI_at hat))
          rw [prE_k] at k2
          have hO2 := fun z => hO.snd q ((qx : Int), (qn : Int)) z (rI_at hat)
          have hlist : (rI (runs f fr i)).set q ((qx : Int), (qn : Int) + 1) = rI (runs f fr (i + 1)) := by rw [hsn]; simp [rI]
          have hl2 : (runs f fr (i + 1)).length = L := by rw [hsn, List.length_set]; exact hL
          have FC : Hid ((L : Int) - 1 = (q : Int) ∧ IntKind.i64.wrap (q : Int) = (q : Int) ∧ (q : Int) < (L : Int) ∧ IntKind.i64.wrap ((qn : Int) + 1) = (qn : Int) + 1) := ⟨by omega, by rw [IntKind.wrap_i64]; omega, by omega, by rw [IntKind.wrap_i64]; omega⟩
          have hjj : (i : Int) - 1 = (j : Int) := by omega
          have hjm : (j : Int) < (m : Int) := by omega
          have hi0 : 0 < i := by omega
          have HO : Hid (OwnK prE wr w.heap.size (.slice (some ⟨gl, 0, none⟩) L cl) (rI (runs f fr i))) := hO
          have HR : Hid _ := And.intro hat (And.intro hlist hl2)
          have HB : Hid (Below w.heap.size w wr) := hB
          have hfro := hO.frozenP (q * 2 + 1)
          clear hj hfj hq htouch hsn hO2 hlist hl2 hL hqd hO hB hat hpos hfi
          go_upto_region 7 with fail
          clear d0 d1 d2 dj hjj hjm hi0 hlt'
          refine wp_reliesT [Fx (.slice (some ⟨gl, 0, none⟩) L cl), Fx (.slice (some ⟨gl, 0, none⟩) L cl), Fx (.int .i64 ((L : Int))), Fx (.int .i64 ((q : Int))), Fx (.pointer (some ⟨gl, q * 2, none⟩)), Fx (.pointer (some ⟨gl, q * 2 + 1, none⟩)), Fx (.int .i64 ((qn : Int))), Fx (.int .i64 ((qn : Int) + 1)), Fx (.pointer (some ⟨gl, q * 2, none⟩)), Fx (.pointer (some ⟨gl, q * 2 + 1, none⟩))] (by kernel_rfl) (by kernel_rfl) ?_ ?_ ?_
          · repeat' (first | exact all_nil | apply all_cons)
            all_goals intro v y y' hv hb
            all_goals first | exact Fx_mono _ _ _ _ hv hb
          · refine ⟨?_, ?_, ?_, ?_, ?_, ?_, ?_, ?_, ?_, ?_, trivial⟩
            all_goals
              intro ρ x hp ρc ρg ρf ho hd
              have o3 : ρ (.tmp 3) = .slice (some ⟨gl, 0, none⟩) L cl := ho 3 rfl
              clear ho
              have k3 := cell_later hp k2
              simp only [depsR, depR, slotR, Fx, List.getElem?_cons_succ, List.getElem?_cons_zero, Region.binds, forall_const] at hd
              simp only [guardR]
              go_split_ands
            · go_simp
            · go_simp
            · go_simp
            · have hq := FC.out
              go_simp
            · have hq := FC.out
              go_simp
            · go_simp
            · go_simp
            · have hq := FC.out
              go_simp
            · have hq := FC.out
              go_simp
            · go_simp
          · intro vs x1 hp hw
            simp only [owed, Fx] at hw
            obtain ⟨e0, e1, e2, e3, e4, e5, e6, e7, e8, e9, -⟩ := hw
            simp only [List.length_cons, List.length_nil, List.take_succ_cons, List.take_zero, List.drop_succ_cons, List.drop_zero, asg, List.cons_append, List.nil_append, e0, e1, e2, e3, e4, e5, e6, e7, e8, e9]
            clear e0 e1 e2 e3 e4 e5 e6 e7 e8 e9
            have hO2 := (OwnK.keep HO.out hp).snd q ((qx : Int), (qn : Int)) ((qn : Int) + 1) (rI_at HR.out.1)
            have hf2 := (OwnK.keep HO.out hp).frozenP (q * 2 + 1)
            have hc2 := cell_later hp k2
            have hB2 := HB.out.trans (hp.mono (Below.size HB.out))
            have hgl := (World.ownsRow.lt HO.out gl rfl).1
            have HO2 : Hid _ := hO2
            have HB2 : Hid _ := hB2.setCell (p := ⟨gl, q * 2 + 1, none⟩) hgl (.int .i64 ((qn : Int) + 1))
            clear hO2 hB2 hp HO HB k2 FC hgl hfro
            go_wp2
            go_roundw
            case rel => exact ⟨i + 1, _, cl, by omega, by go_num, by rw [HR.out.2.2], by rw [HR.out.2.2]; rw [HR.out.2.1] at HO2; exact HO2.out, HB2.out⟩
            case measure => simp [intOf]; omega
        · have hnl : ∀ q, (runs f fr i).getLast? = some q → q.1 + q.2 ≠ fr + i := fun q hq he => by
            rcases i with _ | j
            · simp [runs] at hq
            · have := (runs_touch f fr j q hq).1 he
              exact hext ⟨j, rfl, this⟩
          rw [addR_more _ _ hnl] at hsn
          have hl2 : (runs f fr (i + 1)).length = (runs f fr i).length + 1 := by rw [hsn]; simp
          have hlist : rI (runs f fr i) ++ [(((fr + i : Nat) : Int), (1 : Int))] = rI (runs f fr (i + 1)) := by rw [hsn]; simp [rI]
          obtain ⟨gn, cn, wn, hr, hOn, hBn⟩ := app1P wr w.heap.size xl (runs f fr i).length cl (rI (runs f fr i)) (((fr + i : Nat) : Int), (1 : Int)) 31 hO (rI_len _) hB.size (by omega)
          rw [hlist, ← hl2] at hOn
          rw [← hl2] at hr
          have hcast : (fr : Int) + (i : Int) = ((fr + i : Nat) : Int) := by omega
          have HR : Hid _ := And.intro hOn (And.intro (hB.trans hBn) hl2)
          have HBw : Hid (Below w.heap.size w wr) := hB
          obtain ⟨L, hL⟩ : ∃ L, (runs f fr i).length = L := ⟨_, rfl⟩
          obtain ⟨L2, hL2⟩ : ∃ L2, (runs f fr (i + 1)).length = L2 := ⟨_, rfl⟩
          have HL2 : Hid _ := hL2
          rw [hL, hL2] at hr
          rw [hL] at hO hll ⊢
          obtain ⟨fi, hfid⟩ : ∃ fi, fr + i = fi := ⟨_, rfl⟩
          rw [hfid] at hr hcast
          clear hnl hsn hlist hOn hBn hO hB hl2 hL hL2 hfid hfi
          by_cases hz : i = 0
          · have hi0 : ¬ 0 < i := by omega
            clear hext hz
            go_wp2_with (at_builtin; refine wpL_appG 31 rfl _ _ rfl _ wn (by exact hr) ?_)
            go_roundw
            case rel => exact ⟨i + 1, _, cn, by omega, by go_num, by rw [HL2.out], HR.out.1, HR.out.2.1⟩
            case measure => simp [intOf]; omega
          · obtain ⟨j, hj⟩ : ∃ j, i = j + 1 := ⟨i - 1, by omega⟩
            have hfj : f (fr + j) = true := by
              cases hv : f (fr + j)
              · exact (hext ⟨j, hj, hv⟩).elim
              · rfl
            have dj := cell_later HR.out.2.1 (h2.cell j _ (fV_at _ _ _ j (by omega)))
            have dj2 := cell_later HBw.out (h2.cell j _ (fV_at _ _ _ j (by omega)))
            rw [hfj] at dj dj2
            have hjj : (i : Int) - 1 = (j : Int) := by omega
            have hjm : (j : Int) < (m : Int) := by omega
            have hi0 : 0 < i := by omega
            clear hext hz hj hfj dj
            go_wp2_with (at_builtin; refine wpL_appG 31 rfl _ _ rfl _ wn (by exact hr) ?_)
            go_roundw
            case rel => exact ⟨i + 1, _, cn, by omega, by go_num, by rw [HL2.out], HR.out.1, HR.out.2.1⟩
            case measure => simp [intOf]; omega
      · rw [hfi] at d2 hsn
        rw [addR_taken] at hsn
        rw [← hsn] at hO ⊢
        clear hsn hfi
        go_wp2
        go_roundw
        case rel => exact ⟨i + 1, _, cl, by omega, by go_num, rfl, hO, hB⟩
        case measure => simp [intOf]; omega
    · obtain rfl : i = m := by omega
      clear d0
      go_wp2
      go_ret
      exact ⟨xl, cl, rfl, hO, hB⟩
end Go.Proofs.Ytafbkdpheneceaa
