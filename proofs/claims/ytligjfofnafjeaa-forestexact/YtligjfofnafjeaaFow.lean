
import Derived.Test.YtligjfofnafjeaaFov
import Derived.Test.YtligjfofnafjeaaFor7
namespace Go.Proofs.Ytligjfofnafjeaa
open Go.RowKit Go.Maps

/-! forest.Is -/
def rowsZ (n : Nat) : Array Value := (flK rwF (List.replicate n rwZ)).toArray
def mkRw (x y : Value) : Sem Next := do pure (.value (← Instr.makeSlice 30 x y))
@[go_sem ↓] theorem execOp_mkRw (ρ : Operand → Value) (dst : Option Tmp) (ty : TypeId) (pos : String) (after : Array Edge) (guard : Option (Nat × Bool)) (x y : Operand) : execOp ρ { dst, op := .makeSlice 30 x y, type := ty, pos, after, guard } = mkRw (ρ x) (ρ y) := rfl
theorem made_rows (n : Nat) : madeCells (rwA rwZ) (n * 36) = rowsZ n := by
  apply Array.ext_getElem?
  intro i
  unfold rowsZ
  by_cases hi : i < n * 36
  · have h1 : (List.replicate n rwZ)[i / 36]? = some rwZ := by rw [List.getElem?_replicate, if_pos (by omega)]
    have h2 := flK_at rwF_ok (List.replicate n rwZ) i rwZ h1
    have e1 : rwF.enc rwZ = (rwA rwZ).toList := by simp only [rwF]
    have e2 : rwF.k = 36 := rfl
    rw [show ((flK rwF (List.replicate n rwZ)).toArray)[i]? = (flK rwF (List.replicate n rwZ))[i]? from by simp, h2, e2, e1, Array.getElem?_toList]
    rw [Array.getElem?_eq_getElem (by rw [size_madeCells]; exact hi), Array.getElem?_eq_getElem (by rw [rwA_size]; omega)]
    simp [madeCells, rwA_size]
    rw [getElem!_pos]
  · have hlen : (flK rwF (List.replicate n rwZ)).length = n * 36 := by rw [flK_len rwF_ok]; simp [rwF]
    rw [Array.getElem?_eq_none (by rw [size_madeCells]; omega), Array.getElem?_eq_none (by rw [List.size_toArray, hlen]; omega)]
@[go_sem] theorem run_mkRw (w : World) (n : Int) (h0 : 0 ≤ n) (h : n ≤ 4398046511104) : (mkRw (.int .i64 n) (.int .i64 n)).run Try.prog w =
    .ok (.value (.slice (some ⟨w.heap.size, 0, none⟩) n.toNat n.toNat)) (w.alloc (.cells (rowsZ n.toNat) 45)) := by
  obtain ⟨i, hi, hzz⟩ := Option.map_eq_some_iff.1 rwF_ok.info
  simp only [Prod.mk.injEq] at hzz
  simp only [mkRw, Sem.run_bind]
  have hi' : Try.prog.info? 45 = some i := hi
  have h1 : i.zero = some (.agg (rwA rwZ)) := hzz.1
  have h2 : i.size = 36 := hzz.2.1
  have h3 : i.bytes = 44 := hzz.2.2
  rw [run_make (P := Try.prog) w 30 45 i _ Try.underlying30 hi' h1 .i64 .i64 n n h0 (Int.le_refl _) (by rw [h3]; omega) (by omega)]
  rw [h2, show (Value.agg (rwA rwZ)).cells = rwA rwZ from rfl, made_rows]
  rfl
theorem ownR_new (n : Nat) (x : World) (h41 : n ≤ 4398046511104) : OwnK rwF (x.alloc (.cells (rowsZ n) 45)) x.heap.size (.slice (some ⟨x.heap.size, 0, none⟩) n n) (List.replicate n rwZ) := by
  have := OwnK.lit rwF_ok x (List.replicate n rwZ) (by rw [List.length_replicate]; unfold maxLen; omega)
  rw [List.length_replicate] at this
  exact this
/-- The rows while they are laid. -/
def mixR (l : List Sn) (n i : Nat) : List Rw := (l.take i).map mkR ++ List.replicate (n - i) rwZ
theorem mixR_0 (l : List Sn) (n : Nat) : mixR l n 0 = List.replicate n rwZ := by unfold mixR; simp
theorem mixR_n (l : List Sn) (n : Nat) (hn : l.length = n) : mixR l n n = l.map mkR := by unfold mixR; rw [← hn]; simp
theorem mixR_set (l : List Sn) (n i : Nat) (d : Sn) (hn : l.length = n) (hi : l[i]? = some d) (hlt : i < n) : (mixR l n i).set i (mkR d) = mixR l n (i + 1) := by
  unfold mixR
  have hA : ((l.take i).map mkR).length = i := by rw [List.length_map, List.length_take]; omega
  rw [List.set_append_right _ _ (by omega), hA, Nat.sub_self, show n - i = (n - (i + 1)) + 1 by omega, List.replicate_succ, List.set_cons_zero, take_snoc hi, List.map_append, List.append_assoc]
  rfl
theorem mkR_get {l : List Sn} {i : Nat} {d : Sn} (h : l[i]? = some d) : (l.map mkR)[i]? = some (mkR d) := by rw [List.getElem?_map, h]; rfl
theorem isS_eq (l : List Sn) (n : Nat) (hn : l.length = n) : isS l = (!anyF (frO (l.map mkR)).kp n && decide ((Fr.sel (frO (l.map mkR)).noPa n).length = 0) && decide ((Fr.sel (frO (l.map mkR)).cyc n).length = 0)) := by
  have key : (!anyF (frO (l.map mkR)).kp n) = (l.all (fun s => !(s.id == 0)) && decide ((Fr.sel (frO (l.map mkR)).twice n).length = 0)) := by
    rw [Bool.eq_iff_iff, Bool.not_eq_true', anyF_iff, Bool.and_eq_true, List.all_eq_true, decide_eq_true_eq, List.length_eq_zero_iff, sel_nil]
    have hok : ∀ (i : Nat) (d : Sn), l[i]? = some d → (frO (l.map mkR)).cd i = !(d.id == 0) := fun i d hd => by
      unfold Fr.cd
      rw [frO_ok (mkR_get hd), frO_la (mkR_get hd)]
      show ((true && !(d.id == 0)) && true) = _
      rw [Bool.true_and, Bool.and_true]
    constructor
    · intro h
      refine ⟨fun s hs' => ?_, fun i hi => ?_⟩
      · obtain ⟨i, hi, e⟩ := List.mem_iff_getElem.1 hs'
        have hd : l[i]? = some s := by rw [List.getElem?_eq_getElem hi, e]
        rw [← hok i s hd]
        exact Fr.kp_cd (h i (by omega))
      · unfold Fr.twice
        rw [Fr.kp_low (h i hi), Bool.and_false]
    · rintro ⟨h1, h2⟩ i hi
      obtain ⟨d, hd⟩ : ∃ d, l[i]? = some d := ⟨_, List.getElem?_eq_getElem (by omega)⟩
      have hc : (frO (l.map mkR)).cd i = true := by rw [hok i d hd]; exact h1 d (List.mem_of_getElem? hd)
      have ht := h2 i hi
      unfold Fr.twice at ht
      rw [hc, Bool.true_and] at ht
      unfold Fr.kp
      rw [hc, ht]; rfl
  rw [key]
  unfold isS
  rw [hn]
  generalize (Fr.sel (frO (l.map mkR)).twice n).length = a
  generalize (Fr.sel (frO (l.map mkR)).noPa n).length = b
  generalize (Fr.sel (frO (l.map mkR)).cyc n).length = c
  have e : decide (a + b + c = 0) = (decide (a = 0) && decide (b = 0) && decide (c = 0)) := by
    rw [Bool.eq_iff_iff, Bool.and_eq_true, Bool.and_eq_true, decide_eq_true_eq, decide_eq_true_eq, decide_eq_true_eq, decide_eq_true_eq]
    omega
  rw [e, Bool.and_assoc, Bool.and_assoc, Bool.and_assoc]
set_option linter.unusedSimpArgs false in
set_option maxRecDepth 100000 in
set_option maxHeartbeats 4000000 in
theorem isZ (l : List Sn) (x : Option Addr) (n c : Nat) (w : World) (hn : l.length = n) (h41 : n ≤ 4398046511104) (hs : ∀ s ∈ l, s.ok) (hl : IsK snE w (.slice x n c) l) :
    Calls Try.prog 10 #[.slice x n c] w fun e w' => e = .returned (.bool (isS l)) ∧ Below w.heap.size w w' := by
  obtain ⟨IS, hIS⟩ : ∃ z, isS l = z := ⟨_, rfl⟩
  rw [hIS]
  have bC := below_alloc w (.cells (rowsZ n) 45)
  have hO0 := ownR_new n w h41
  have m0 : (0 : Int) ≤ (n : Int) := by omega
  have m1 : (n : Int) ≤ 4398046511104 := by omega
  have m2 : ((n : Int)).toNat = n := by omega
  have HIS : Hid (isS l = IS) := hIS
  clear hIS
  obtain ⟨gr, hgr⟩ : ∃ z, w.heap.size = z := ⟨_, rfl⟩
  have HGR : Hid (w.heap.size = gr) := hgr
  go_enter Try.func10, Try.ntmps10
  go_upto_region 2 with fail
  rw [hgr] at hO0 bC
  try simp only [hgr]
  generalize w.alloc (.cells (rowsZ n) 45) = W1 at bC hO0 ⊢
  clear m0 m1 m2 hgr
  go_wp2_with fail
  go_loopw [12] (fun iv wr => ∃ i : Nat, i ≤ n ∧ iv = .int .i64 i ∧ OwnK rwF wr gr (.slice (some ⟨gr, 0, none⟩) n n) (mixR l n i) ∧ Below gr w wr) (fun iv _ => n - (intOf iv).toNat)
  case atStart => exact ⟨0, by omega, rfl, by rw [mixR_0]; exact hO0, bC⟩
  case round =>
    clear hO0 bC
    obtain ⟨i, hi, rfl, hO, hB⟩ := hrel
    by_cases hlt : i < n
    · obtain ⟨r, hr⟩ : ∃ r, l[i]? = some r := ⟨_, List.getElem?_eq_getElem (by omega)⟩
      obtain ⟨g, o, rfl, -, -, -, k1, k2⟩ := snE_cells (hl.kept (by rw [HGR.out]; exact hB)) i r hr
      have i0 : (i : Int) < (n : Int) := by omega
      have i1 : (0 : Int) ≤ (i : Int) := by omega
      have bA := below_alloc wr (.cells (snA r) 37)
      have hR := RowC.new wr (snA r) 37
      have hO1 := hO.keep bA
      have hB1 := hB.trans (bA.mono (HGR.out ▸ hB.size))
      have hst := hO1.store rwF_ok i (mkR r) hlt
      have hO2 := hO1.put rwF_ok i (mkR r) hlt
      rw [mixR_set l n i r hn hr hlt] at hO2
      have hB2 := hB1.trans (hO1.below (grown_setC _ gr (i * rwF.k) (rwF.enc (mkR r))) (HGR.out ▸ hB1.size))
      have hst' : (bigStore 45 (.pointer (some ⟨gr, i * 36, none⟩)) (.agg (rwA ⟨true, true, r⟩))).run Try.prog (wr.alloc (.cells (snA r) 37)) = .ok .skip ((wr.alloc (.cells (snA r) 37)).setCells gr (i * rwF.k) (rwF.enc (mkR r))) := by
        have e3 : (rwF.enc (mkR r)).toArray = rwA ⟨true, true, r⟩ := rwF_enc (mkR r)
        rw [e3] at hst
        have e4 : rwF.T = 45 := rfl
        have e5 : rwF.k = 36 := rfl
        simp only [bigStore, Sem.run_bind]
        rw [e4, e5] at hst
        rw [hst, e5]
        rfl
      have HO : Hid _ := hO2
      have HB : Hid _ := hB2
      have HI : Hid (i < n) := hlt
      obtain ⟨q1, q2⟩ := hR
      have z9 : (snA r).size = 34 := snA_size _
      clear hO hB hO1 hB1 hst hO2 hB2 bA hr hi hlt
      go_upto_region 5 with fail
      generalize (wr.alloc (.cells (snA r) 37)).setCells gr (i * rwF.k) (rwF.enc (mkR r)) = Z at HO HB hst'
      generalize wr.alloc (.cells (snA r) 37) = Y at q1 q2 hst' ⊢
      have z10 : (rowAt Y wr.heap.size).size = 34 := by rw [q2]; exact z9
      clear k1 k2
      go_wp2
      go_roundw
      case rel => first | exact ⟨i + 1, by have := HI.out; omega, by go_num, HO.out, HB.out⟩ | ((repeat apply Exists.intro); refine ⟨⟨i + 1, by have := HI.out; omega, ?_, HO.out, HB.out⟩, rfl⟩; go_num)
      case measure => have := HI.out; simp [intOf]; omega
    · obtain rfl : n = i := by omega
      have i0 : ¬ (n : Int) < (n : Int) := by omega
      rw [mixR_n l n hn] at hO
      have hlen : (l.map mkR).length = n := by rw [List.length_map]; exact hn
      have hOf := ofZ (l.map mkR) (some ⟨gr, 0, none⟩) n n wr hlen h41 (map_ok hs) (hO.isK rwF_ok)
      have HB0 : Hid _ := hB
      have hEq := isS_eq l n hn
      rw [HIS.out] at hEq
      clear hB hO hl hs hlt hi HIS
      go_wp2_with fail
      refine hOf.mono ?_
      rintro e w1 ⟨V, rfl, hF⟩
      rw [hlen] at hF
      clear hOf
      have bC := below_alloc w1 (.cells (foA V) 28)
      have hR := RowC.new w1 (foA V) 28
      have hBa : Below gr w w1 := HB0.out.trans (hF.be.mono (HGR.out ▸ HB0.out.size))
      have HB : Hid (Below gr w (w1.alloc (.cells (foA V) 28))) := hBa.trans (bC.mono (HGR.out ▸ hBa.size))
      obtain ⟨x0, d0, e0⟩ := own_slice hF.kept
      obtain ⟨x4, d4, e4⟩ := own_slice (hF.list 4 (by omega) (by omega))
      obtain ⟨x5, d5, e5⟩ := own_slice (hF.list 5 (by omega) (by omega))
      rw [bF_len] at e0
      rw [iF_len] at e4 e5
      have hK0 := (hF.kept.isG).kept bC
      rw [e0] at hK0
      have hCt := contains21 x0 n d0 _ (w1.alloc (.cells (foA V) 28)) (by omega) hK0
      have f4 : FL (frO (l.map mkR)) n n 4 = Fr.sel (frO (l.map mkR)).noPa n := rfl
      have f5 : FL (frO (l.map mkR)) n n 5 = Fr.sel (frO (l.map mkR)).cyc n := rfl
      rw [f4] at e4
      rw [f5] at e5
      generalize (Fr.sel (frO (l.map mkR)).noPa n).length = a4 at e4 hEq
      generalize (Fr.sel (frO (l.map mkR)).cyc n).length = a5 at e5 hEq
      generalize anyF (frO (l.map mkR)).kp n = bK at hCt hEq
      have c0 := hR.cell 0
      have c4 := hR.cell 4
      have c5 := hR.cell 5
      rw [foA_get V 0 (by omega), e0] at c0
      rw [foA_get V 4 (by omega), e4] at c4
      rw [foA_get V 5 (by omega), e5] at c5
      have hon := foA_one' hF
      have zV : (foA V).size = 6 := foA_size _
      go_upto_region 8 with fail
      generalize w1.alloc (.cells (foA V) 28) = Y at HB c0 c4 c5 hCt ⊢
      generalize w1.heap.size = g5 at c0 c4 c5 ⊢
      clear hF hR bC HB0 e0 e4 e5 hon zV hBa hK0 f4 f5
      have HE : Hid _ := hEq
      clear hEq
      cases bK
      · by_cases h4 : a4 = 0
        · subst h4
          by_cases h5 : a5 = 0
          · subst h5
            go_wp2_with fail
            refine hCt.mono ?_
            rintro e w' ⟨rfl, rfl⟩
            clear hCt
            go_wp2
            go_ret
            refine ⟨by rw [HE.out]; rfl, by rw [HGR.out]; exact HB.out⟩
          · have z5 : ((a5 : Int) == 0) = false := beq_eq_false_iff_ne.2 (by omega)
            have HE5 : Hid (IS = false) := by show _ = _; rw [HE.out, decide_eq_false h5]; simp
            clear h5 HE
            go_wp2_with fail
            refine hCt.mono ?_
            rintro e w' ⟨rfl, rfl⟩
            clear hCt
            go_wp2
            go_ret
            refine ⟨by rw [HE5.out]; rfl, by rw [HGR.out]; exact HB.out⟩
        · have z4 : ((a4 : Int) == 0) = false := beq_eq_false_iff_ne.2 (by omega)
          have HE5 : Hid (IS = false) := by show _ = _; rw [HE.out, decide_eq_false h4]; simp
          clear h4 HE
          go_wp2_with fail
          refine hCt.mono ?_
          rintro e w' ⟨rfl, rfl⟩
          clear hCt
          go_wp2
          go_ret
          refine ⟨by rw [HE5.out]; rfl, by rw [HGR.out]; exact HB.out⟩
      · have HE5 : Hid (IS = false) := by show _ = _; rw [HE.out]; rfl
        clear HE
        go_wp2_with fail
        refine hCt.mono ?_
        rintro e w' ⟨rfl, rfl⟩
        clear hCt
        go_wp2
        go_ret
        refine ⟨by rw [HE5.out]; rfl, by rw [HGR.out]; exact HB.out⟩
end Go.Proofs.Ytligjfofnafjeaa
