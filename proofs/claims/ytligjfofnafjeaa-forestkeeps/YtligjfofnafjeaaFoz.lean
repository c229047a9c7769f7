
import Derived.Test.YtligjfofnafjeaaFoy
namespace Go.Proofs.Ytligjfofnafjeaa
open Go.RowKit Go.Maps

/-! forest.link: the parents that are kept, as slots -/
namespace Fr
variable (F : Fr)
/-- The parent of a kept one, where that is kept. -/
def lk (k : Nat) : Nat := bif F.want k && !decide (F.nx k < 0) then F.pa k else 0
end Fr
def Pl (F : Fr) (i : Nat) : Nat → Nat := fun k => if k < i then F.lk k else 0
def ul (F : Fr) (i : Nat) : Nat → Int := fun k => if k < i then F.us k else 0
theorem Pl_no (F : Fr) (i : Nat) (h : F.lk i = 0) : Pl F (i + 1) = Pl F i := by
  funext k; unfold Pl
  by_cases e : k = i
  · subst e; rw [if_pos (by omega), if_neg (by omega), h]
  · by_cases h2 : k < i
    · rw [if_pos (by omega), if_pos h2]
    · rw [if_neg (by omega), if_neg h2]
theorem Pl_set (F : Fr) (i v : Nat) (h : F.lk i = v) : Pl F (i + 1) = fun j => if j = i then v else Pl F i j := by
  funext k; unfold Pl
  by_cases e : k = i
  · subst e; rw [if_pos (by omega), if_pos rfl, h]
  · rw [if_neg e]
    by_cases h2 : k < i
    · rw [if_pos (by omega), if_pos h2]
    · rw [if_neg (by omega), if_neg h2]
theorem ul_set (F : Fr) (i : Nat) (v : Int) (h : F.us i = v) : ul F (i + 1) = fun j => if j = i then v else ul F i j := by
  funext k; unfold ul
  by_cases e : k = i
  · subst e; rw [if_pos (by omega), if_pos rfl, h]
  · rw [if_neg e]
    by_cases h2 : k < i
    · rw [if_pos (by omega), if_pos h2]
    · rw [if_neg (by omega), if_neg h2]
theorem ul_set2 (F : Fr) (i : Nat) (v z : Int) (h : F.us i = v) : ul F (i + 1) = fun j => if j = i then v else (fun j => if j = i then z else ul F i j) j := by
  rw [ul_set F i v h]
  funext k
  by_cases e : k = i
  · rw [if_pos e, if_pos e]
  · rw [if_neg e, if_neg e]
    show _ = if k = i then z else ul F i k
    rw [if_neg e]
/-- A kept one without a parent. -/
theorem us_zero {F : Fr} (hG : F.Good) {i : Nat} (h : F.pa i = 0) : F.us i = -1 := by
  unfold Fr.us
  split
  · rcases Fr.nx_spec (F := F) i with h1 | ⟨j, h1, h2, h3, h4⟩
    · exact h1
    · exact absurd (h4.trans h) (Fr.In.nz hG ⟨j, h2, h3, rfl⟩)
  · rfl
def X78 (b m : Nat) (D : DataW Unit) (B : Nat) (v : Value) (u : Nat → Int) (n : Nat) : Nat → Option Th := updT (updT (fun _ => none) 7 (thM b m D)) 8 (thG 3 B v (zF u n))
set_option maxRecDepth 100000 in
theorem X78_7 (b m : Nat) (D : DataW Unit) (B : Nat) (v : Value) (u : Nat → Int) (n : Nat) : X78 b m D B v u n 7 = some (thM b m D) := rfl
set_option maxRecDepth 100000 in
theorem X78_8 (b m : Nat) (D : DataW Unit) (B : Nat) (v : Value) (u : Nat → Int) (n : Nat) : X78 b m D B v u n 8 = some (thG 3 B v (zF u n)) := rfl
set_option maxRecDepth 100000 in
theorem X78_upd (b m : Nat) (D : DataW Unit) (B : Nat) (v : Value) (u u' : Nat → Int) (n : Nat) : updT (X78 b m D B v u n) 8 (thG 3 B v (zF u' n)) = X78 b m D B v u' n := by
  funext k
  unfold X78 updT
  by_cases e : k = 8
  · rw [if_pos e, if_pos e]
  · rw [if_neg e, if_neg e, if_neg e]
/-- What link leaves. -/
def LiP (F : Fr) (n g b m : Nat) (D : DataW Unit) (w : World) (e : Ending) (w' : World) : Prop := ∃ v V, e = .returned v ∧ Fy n w w' (some (g, foA V)) V (Kt F n) (Pl F n) (FM F n n []) (X78 b m D w.heap.size v (ul F n) n)
set_option linter.unusedSimpArgs false in
set_option maxRecDepth 100000 in
set_option maxHeartbeats 4000000 in
theorem link21 (l : List Rw) (x : Option Addr) (n c g b m : Nat) (D : DataW Unit) (w W : World) (V : Nat → Value) (hn : l.length = n) (h41 : n ≤ 4398046511104) (hs : ∀ r ∈ l, r.sn.ok) (hl : IsK rwF w (.slice x n c) l) (hD : MapIs (frO l) n D)
    (hF : Fy n w W (some (g, foA V)) V (Kt (frO l) n) (fun _ => 0) (FM (frO l) n 0 []) (updT (fun _ => none) 7 (thM b m D))) :
    Calls Try.prog 18 #[.pointer (some ⟨g, 0, none⟩), .slice x n c, .map (some b)] W fun e w' => LiP (frO l) n g b m D w e w' := by
  have hfn : (frO l).n = n := hn
  have hG := frO_good hs
  have hF1 := hF.newG 8 (by omega) (below_alloc W _) (ownI_new n W h41)
  have m0 : (0 : Int) ≤ (n : Int) := by omega
  have m1 : (n : Int) ≤ 35184372088832 := by omega
  have m2 : ((n : Int)).toNat = n := by omega
  go_enter Try.func18, Try.ntmps18
  go_upto_region 2 with fail
  obtain ⟨vu, hvu⟩ : ∃ z, Value.slice (some ⟨W.heap.size, 0, none⟩) n n = z := ⟨_, rfl⟩
  rw [hvu] at hF1
  simp only [hvu]
  generalize W.alloc (.cells (zerosI n).toArray 3) = W1 at hF1 ⊢
  clear hF hvu m0 m1 m2
  go_wp2_with fail
  go_loopw [17] (fun iv wr => ∃ (i : Nat) (V : Nat → Value), i ≤ n ∧ iv = .int .i64 i ∧ Fy n w wr (some (g, foA V)) V (Kt (frO l) n) (Pl (frO l) i) (FM (frO l) n i []) (X78 b m D w.heap.size vu (ul (frO l) i) n)) (fun iv _ => n - (intOf iv).toNat)
  case atStart =>
    refine ⟨0, V, by omega, rfl, ?_⟩
    have e1 : Pl (frO l) 0 = fun _ => 0 := by funext k; unfold Pl; rw [if_neg (by omega)]
    have e2 : ul (frO l) 0 = fun _ => 0 := by funext k; unfold ul; rw [if_neg (by omega)]
    rw [e1, e2]; exact hF1
  case round =>
    clear hF1
    obtain ⟨i, V, hi, rfl, hF⟩ := hrel
    by_cases hlt : i < n
    · obtain ⟨r, hr⟩ : ∃ r, l[i]? = some r := ⟨_, List.getElem?_eq_getElem (by omega)⟩
      obtain ⟨gl, o, rfl, k1, k2, -, -⟩ := rwF_rg (hl.kept hF.be) i r hr
      have hpa := frO_pa hr
      have hrs := hs r (List.mem_of_getElem? hr)
      unfold Sn.ok at hrs
      obtain ⟨J, hJ⟩ : ∃ q : Nat, r.sn.pa = (q : Int) := ⟨r.sn.pa.toNat, by omega⟩
      have hJ9 : J < 4294967296 := by omega
      have i0 : (i : Int) < (n : Int) := by omega
      have i1 : (0 : Int) ≤ (i : Int) := by omega
      have bC := below_alloc wr (.cells (rwA r) 45)
      have hR := RowC.new wr (rwA r) 45
      have hFa := hF.later bC
      have hYq : (wr.alloc (.cells (rwA r) 45)).heap[wr.heap.size]? = some (.cells (rwA r) 45 (0, 0)) := heap_alloc_last _ _
      rw [hJ, Int.toNat_natCast] at hpa
      have HI : Hid (i < n) := hlt
      have FK : Hid ((0 : Int) ≤ (i : Int) ∧ (i : Int) < (n : Int)) := ⟨i1, i0⟩
      have HJ : Hid (r.sn.pa = (J : Int)) := hJ
      obtain ⟨gu, cu, hvu, cU, fU, hFb⟩ := hFa.setU (q := 8) (by omega) (X78_8 _ _ _ _ _ _ _) i hlt (-1)
      subst hvu
      rw [X78_upd] at hFb
      have hqu : gu ≠ wr.heap.size := fun e => by
        subst e
        exact own_cells (hFa.isGX (q := 8) (by omega) (X78_8 _ _ _ _ _ _ _)) hYq (by decide) (by simp [Value.ownBlock])
      go_upto_region 5 with fail
      obtain ⟨q, hq⟩ : ∃ z, wr.heap.size = z := ⟨_, rfl⟩
      rw [hq] at hYq hqu
      try simp only [hq]
      generalize wr.alloc (.cells (rwA r) 45) = Y at hFa hFb hYq cU fU ⊢
      clear hF k1 k2 hrs bC hR hq hJ hr hi hlt hFa
      go_upto_region 6 with fail
      have hZq : (Y.setCell ⟨gu, i, none⟩ (.int .i64 (-1))).heap[q]? = some (.cells (rwA r) 45 (0, 0)) := by rw [heap_setCell_ne Y gu q i (.int .i64 (-1)) hqu]; exact hYq
      generalize Y.setCell ⟨gu, i, none⟩ (.int .i64 (-1)) = Z at hFb hZq ⊢
      have c3 : Z.cell? ⟨q, 3, none⟩ = some (.int .u32 (J : Int)) := by
        rw [cell_of_row _ _ 3 _ _ _ hZq, rwA_3, HJ.out]
      obtain ⟨gk, ck, hVk, cK9, fK9, -⟩ := hFb.setK i HI.out true
      have cR := hFb.row.cell 0
      rw [foA_get V 0 (by omega), hVk] at cR
      have hKt : Kt (frO l) n i = (frO l).kp i := by unfold Kt; rw [decide_eq_true HI.out]; rfl
      rw [hKt] at cK9
      clear hKt cU fU hYq
      cases hkp : (frO l).kp i
      · rw [hkp] at cK9
        have hno : (frO l).noPa i = false := by unfold Fr.noPa Fr.want; rw [hkp]; rfl
        have hlk : (frO l).lk i = 0 := by unfold Fr.lk Fr.want; rw [hkp]; rfl
        have hus : (frO l).us i = -1 := by unfold Fr.us; rw [hkp]; rfl
        have HF : Hid (Fy n w Z (some (g, foA V)) V (Kt (frO l) n) (Pl (frO l) (i + 1)) (FM (frO l) n (i + 1) []) (X78 b m D w.heap.size (.slice (some ⟨gu, 0, none⟩) n cu) (ul (frO l) (i + 1)) n)) := by
          show Fy _ _ _ _ _ _ _ _ _
          rw [FM_b _ _ _ _ hno, Pl_no _ _ hlk, ul_set _ _ _ hus]; exact hFb
        clear hFb hpa hno hlk hus hVk
        go_wp2
        go_roundw
        case rel => first | exact ⟨i + 1, V, by have := HI.out; omega, by go_num, HF.out⟩ | ((repeat apply Exists.intro); refine ⟨⟨i + 1, V, by have := HI.out; omega, ?_, HF.out⟩, rfl⟩; go_num)
        case measure => have := HI.out; simp [intOf]; omega
      · rw [hkp] at cK9
        by_cases h0 : J = 0
        · subst h0
          have hno : (frO l).noPa i = false := by unfold Fr.noPa Fr.want; rw [hpa]; simp
          have hlk : (frO l).lk i = 0 := by unfold Fr.lk Fr.want; rw [hpa]; simp
          have hus : (frO l).us i = -1 := us_zero hG hpa
          have HF : Hid (Fy n w Z (some (g, foA V)) V (Kt (frO l) n) (Pl (frO l) (i + 1)) (FM (frO l) n (i + 1) []) (X78 b m D w.heap.size (.slice (some ⟨gu, 0, none⟩) n cu) (ul (frO l) (i + 1)) n)) := by
            show Fy _ _ _ _ _ _ _ _ _
            rw [FM_b _ _ _ _ hno, Pl_no _ _ hlk, ul_set _ _ _ hus]; exact hFb
          clear hFb hpa hno hlk hus hVk
          go_wp2
          go_roundw
          case rel => first | exact ⟨i + 1, V, by have := HI.out; omega, by go_num, HF.out⟩ | ((repeat apply Exists.intro); refine ⟨⟨i + 1, V, by have := HI.out; omega, ?_, HF.out⟩, rfl⟩; go_num)
          case measure => have := HI.out; simp [intOf]; omega
        · have hz9 : ((J : Int) == 0) = false := beq_eq_false_iff_ne.2 (by omega)
          have hw : (frO l).want i = true := by unfold Fr.want; rw [hkp, hpa]; simp [h0]
          have husx : (frO l).us i = (frO l).nx i := by unfold Fr.us; rw [hkp, if_pos rfl]
          have hown := hFb.isM (q := 7) (by omega) (X78_7 _ _ _ _ _ _ _)
          have hkey : keyOf Try.prog 33 (.int .u32 (J : Int)) = some (.int .u32 (J : Int)) := keyOf_int_mk Try.underlying33 (wfU hJ9)
          have hat9 := (show MapIs (frO l) (frO l).n D by rw [hfn]; exact hD).at_ J
          have hnx : (frO l).nx i = (frO l).at_ J := by unfold Fr.nx; rw [hpa]
          rcases hat9 with ⟨hhas, ha⟩ | ⟨k, hhas, ha, hkn, hak⟩
          · rw [ha] at hnx
            have hno : (frO l).noPa i = true := by unfold Fr.noPa; rw [hw, hnx]; rfl
            have hlk : (frO l).lk i = 0 := by unfold Fr.lk; rw [hw, hnx]; rfl
            have hus : (frO l).us i = -1 := husx.trans hnx
            obtain ⟨cV, g', m', c', w', v', hv', hra, cV', fV', hF2⟩ := hFb.app 4 (by omega) (by omega) i 26 (Nat.le_trans (FM_len (frO l) n i [] 4 n (Nat.le_refl _) (Nat.le_of_lt HI.out) (Nat.zero_le _)) h41)
            subst hv'
            rw [← FM_b4 _ _ _ _ hno, ← Pl_no _ _ hlk, ← ul_set _ _ _ hus] at hF2
            have HF : Hid _ := hF2
            clear hFb hF2 hno hlk hus husx hnx ha hw hpa hkp h0 hVk
            go_upto_region 8 with (at_lookup; refine wpList_lookup_own_ok_int _ rfl _ _ 51 rfl 33 3 .i64 keyU Try.underlying51 Try.underlying3 (zeroI _) b m D rfl hown _ _ rfl hkey ?_; intro cz hat hwc; rw [hhas])
            clear hat hwc hown
            go_wp2_with (at_builtin; refine wpL_appG 26 rfl _ _ rfl _ w' (by exact hra) ?_)
            go_roundw
            case rel => first | exact ⟨i + 1, _, by have := HI.out; omega, by go_num, HF.out⟩ | ((repeat apply Exists.intro); refine ⟨⟨i + 1, _, by have := HI.out; omega, ?_, HF.out⟩, rfl⟩; go_num)
            case measure => have := HI.out; simp [intOf]; omega
          · rw [ha] at hnx
            have hno : (frO l).noPa i = false := by unfold Fr.noPa; rw [hw, hnx, decide_eq_false (by omega)]; rfl
            have hlk : (frO l).lk i = J := by unfold Fr.lk; rw [hw, hnx, decide_eq_false (by omega), hpa]; rfl
            have hus : (frO l).us i = (k : Int) := husx.trans hnx
            obtain ⟨gu', cu', hvu, cU, fU, hFc⟩ := hFb.setU (q := 8) (by omega) (X78_8 _ _ _ _ _ _ _) i HI.out (k : Int)
            cases hvu
            rw [X78_upd, ← ul_set2 _ _ _ _ hus, ← FM_b _ _ _ _ hno] at hFc
            have HL : Hid ((frO l).lk i = J) := hlk
            clear hno hlk hus husx hnx ha hw hpa h0
            go_upto_region 8 with (at_lookup; refine wpList_lookup_own_ok_int _ rfl _ _ 51 rfl 33 3 .i64 keyU Try.underlying51 Try.underlying3 (zeroI _) b m D rfl hown _ _ rfl hkey ?_; intro cz hat hwc; rw [hhas])
            have hcz : cz = (k : Int) := by
              rw [hak] at hat
              cases hat; rfl
            subst hcz
            clear hat hwc hown hak
            go_upto_region 11 with fail
            have hZ2 : (Z.setCell ⟨gu, i, none⟩ (.int .i64 (k : Int))).heap[q]? = some (.cells (rwA r) 45 (0, 0)) := by rw [heap_setCell_ne Z gu q i (.int .i64 (k : Int)) hqu]; exact hZq
            generalize Z.setCell ⟨gu, i, none⟩ (.int .i64 (k : Int)) = Z2 at hFc hZ2 ⊢
            clear c3 cR cK9 fK9 hFb hZq cU fU hVk
            have c3 : Z2.cell? ⟨q, 3, none⟩ = some (.int .u32 (J : Int)) := by
              rw [cell_of_row _ _ 3 _ _ _ hZ2, rwA_3, HJ.out]
            obtain ⟨gp, cp, hVp, cP0, fP0, -⟩ := hFc.setP i HI.out J
            have cR1 := hFc.row.cell 1
            rw [foA_get V 1 (by omega), hVp] at cR1
            clear cP0 fP0 hZ2
            refine wp_reliesT [Fx (.pointer (some ⟨g, 0, none⟩)), Fx (.pointer (some ⟨g, 0, none⟩)), Fx (.pointer (some ⟨g, 1, none⟩)), Fx (.slice (some ⟨gp, 0, none⟩) n cp), Fx (.int .i64 (i : Int)), Fx (.pointer (some ⟨q, 2, none⟩)), Fx (.pointer (some ⟨q, 3, none⟩)), Fx (.int .u32 (J : Int)), Fx (.pointer (some ⟨gp, i, none⟩))] (by kernel_rfl) (by kernel_rfl) ?_ ?_ ?_
            · repeat' (first | exact all_nil | apply all_cons)
              all_goals intro v y y' hv hb
              all_goals first | exact Fx_mono _ _ _ _ hv hb
            · refine ⟨?_, ?_, ?_, ?_, ?_, ?_, ?_, ?_, ?_, trivial⟩
              all_goals
                intro ρ y9 hp ρc ρg ρf ho hd
                have o0 : ρ (.tmp 0) = .pointer (some ⟨g, 0, none⟩) := ho 0 rfl
                have o8 : ρ (.tmp 8) = .int .i64 (i : Int) := ho 8 rfl
                have o9 : ρ (.tmp 9) = .pointer (some ⟨q, 0, none⟩) := ho 9 rfl
                clear ho
                replace cR1 := cell_later hp cR1
                replace c3 := cell_later hp c3
                simp only [depsR, depR, slotR, Fx, List.getElem?_cons_succ, List.getElem?_cons_zero, Region.binds, forall_const] at hd
                simp only [guardR]
                go_split_ands
              · go_simp
              · go_simp
              · go_simp
              · go_simp
              · go_simp
              · go_simp
              · go_simp
              · go_simp
              · obtain ⟨z1, z2⟩ := FK.out
                go_simp
            · intro us x1 hp1 hw
              simp only [owed, Fx] at hw
              obtain ⟨e0, e1, e2, e3, e4, e5, e6, e7, e8, -⟩ := hw
              simp only [List.length_cons, List.length_nil, List.take_succ_cons, List.take_zero, List.drop_succ_cons, List.drop_zero, asg, List.cons_append, List.nil_append, e0, e1, e2, e3, e4, e5, e6, e7, e8]
              clear e0 e1 e2 e3 e4 e5 e6 e7 e8
              have hFd := hFc.later hp1
              obtain ⟨gp', cp', hVp', cP, fP, hFe⟩ := hFd.setP i HI.out J
              rw [hVp] at hVp'
              cases hVp'
              rw [← Pl_set _ _ _ HL.out] at hFe
              have HF : Hid _ := hFe
              clear hFc hFd hFe c3 cR1 hp1 hVp
              go_wp2
              go_roundw
              case rel => first | exact ⟨i + 1, V, by have := HI.out; omega, by go_num, HF.out⟩ | ((repeat apply Exists.intro); refine ⟨⟨i + 1, V, by have := HI.out; omega, ?_, HF.out⟩, rfl⟩; go_num)
              case measure => have := HI.out; simp [intOf]; omega
    · obtain rfl : n = i := by omega
      have i0 : ¬ (n : Int) < (n : Int) := by omega
      have HR : Hid (∃ (V : Nat → Value), Fy n w wr (some (g, foA V)) V (Kt (frO l) n) (Pl (frO l) n) (FM (frO l) n n []) (X78 b m D w.heap.size vu (ul (frO l) n) n)) := ⟨V, hF⟩
      clear hF hi hlt hl hs hD
      go_wp2
      go_ret
      obtain ⟨V, h4⟩ := HR.out
      exact ⟨_, V, rfl, h4⟩
end Go.Proofs.Ytligjfofnafjeaa
