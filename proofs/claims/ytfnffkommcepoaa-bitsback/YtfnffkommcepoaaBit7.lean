
import Derived.Test.YtfnffkommcepoaaBitN
namespace Go.Proofs.Ytfnffkommcepoaa
open Go.RowKit

/-! assaylaw07's patched -/
structure Pt where
  s : Int
  a : Int
  y : UInt8
  z : Bool
def patA (p : Pt) : Array Value := #[.int .i64 p.s, .int .i64 p.a, .int .u8 (p.y.toNat : Int), .bool p.z]
def ptZ : Pt := ⟨0, 0, 0, false⟩
@[go_sem] theorem patA_size (p : Pt) : (patA p).size = 4 := by unfold patA; simp
@[go_sem] theorem patA_one (p : Pt) : OneC (patA p) = true := by simp [OneC, patA, Value.oneCell']
theorem patA_0 (p : Pt) : (patA p)[0]? = some (.int .i64 p.s) := by unfold patA; simp
theorem patA_1 (p : Pt) : (patA p)[1]? = some (.int .i64 p.a) := by unfold patA; simp
theorem patA_2 (p : Pt) : (patA p)[2]? = some (.int .u8 (p.y.toNat : Int)) := by unfold patA; simp
theorem patA_3 (p : Pt) : (patA p)[3]? = some (.bool p.z) := by unfold patA; simp
section
variable (ρ : Operand → Value) (dst : Option Tmp) (ty : TypeId) (pos : String) (after : Array Edge) (guard : Option (Nat × Bool))
@[go_sem ↓] theorem execOp_load_pat (x : Operand) : execOp ρ { dst, op := .load 57 x, type := ty, pos, after, guard } = bigLoad 57 (ρ x) := rfl
@[go_sem ↓] theorem execOp_store_pat (x y : Operand) : execOp ρ { dst, op := .store 57 x y, type := ty, pos, after, guard } = bigStore 57 (ρ x) (ρ y) := rfl
@[go_sem ↓] theorem execOp_alloc_pat : execOp ρ { dst, op := .alloc 57, type := ty, pos, after, guard } = bigAlloc 57 := rfl
@[go_sem ↓] theorem execOp_box_pat (x : Operand) : execOp ρ { dst, op := .box 57 x, type := ty, pos, after, guard } = bigBox 57 (ρ x) := rfl
end
theorem info_pat : (Try.prog.info? 57).map (fun i => (i.zero, i.size)) = some (some (.agg (patA ptZ)), 4) := by kernel_rfl
theorem sizeT_pat : (Try.prog.info? 57).map (·.size) = some 4 := (zero_of_info info_pat).2
@[go_sem] theorem run_load_pat (w : World) (g : Nat) (h : rowL w g = true) (hs : (rowAt w g).size = 4) : (bigLoad 57 (.pointer (some ⟨g, 0, none⟩))).run Try.prog w = .ok (.value (.agg (rowAt w g))) w := by
  rw [run_bigLoad 57 _ 4 Try.underlying57 rfl sizeT_pat w g 0 h (by omega), Nat.zero_add, Array.extract_eq_self_of_le (by omega)]
@[go_sem] theorem run_store_pat (w : World) (g : Nat) (c : Array Value) (h : rowL w g = true) (hs : (rowAt w g).size = 4) (hc : c.size = 4) (h1 : OneC c = true) : (bigStore 57 (.pointer (some ⟨g, 0, none⟩)) (.agg c)).run Try.prog w = .ok .skip (w.setRow g c) := by
  rw [run_bigStore 57 4 sizeT_pat w g 0 c h hc (by omega) h1, layC_all _ _ (by omega)]
@[go_sem] theorem run_alloc_pat (w : World) : (bigAlloc 57).run Try.prog w = .ok (.value (.pointer (some ⟨w.heap.size, 0, none⟩))) (w.alloc (.cells (patA ptZ) 57)) := by
  simp only [bigAlloc, Instr.alloc, Sem.run_bind, (zero_of_info info_pat).1 w, Result.andThen_ok]
  rfl
@[go_sem] theorem run_box_pat (w : World) (c : Array Value) : (bigBox 57 (.agg c)).run Try.prog w = .ok (.value (.pointer (some ⟨w.heap.size, 0, none⟩))) (w.alloc (.cells c 57)) := run_bigBox _ c w
@[go_sem] theorem run_pat_mid (w : World) (b o : Nat) (h : rgOk w b o 4 = true) : (bigLoad 57 (.pointer (some ⟨b, o, none⟩))).run Try.prog w = .ok (.value (.agg (rg w b o 4))) w := by
  simp only [bigLoad, Sem.run_bind]
  rw [run_loadAt_mid w b o 57 _ _ (rangeAt_rg h) Try.underlying57 rfl (by rw [sizeT_pat, Array.length_toList, rg_size])]
  rfl
def patE : EK Pt := { T := 57, S := 38, k := 4, bytes := 24, z := .agg (patA ptZ), enc := fun p => (patA p).toList }
theorem patE_enc (p : Pt) : patE.enc p = (patA p).toList := by simp only [patE]
theorem patE_k : patE.k = 4 := rfl
theorem patE_ok : patE.Ok where
  len x := by rw [patE_enc, Array.length_toList, patA_size]; rfl
  one x v hv := by
    have h := patA_one x
    unfold OneC at h
    exact Array.all_eq_true_iff_forall_mem.1 h v (by rw [patE_enc] at hv; simpa using hv)
  und := Try.underlying38
  info := by
    have h : (Try.prog.info? 57).map (fun i => (i.zero, i.size, i.bytes)) = some (some (.agg (patA ptZ)), 4, 24) := by kernel_rfl
    exact h
  zc := by show (patA ptZ).size = 4; simp [patA]
  kp := by show 0 < 4; omega
  row := ⟨_, Try.underlying57, rfl⟩
theorem uint_mod (z : Int) (M : Nat) (hM : 0 < M) (hM2 : M ≤ 64) : ∃ k : Nat, k < M ∧ wrap64 ((IntKind.u64.wrap z).tmod (M : Int)) = (k : Int) ∧ wrap64 ((IntKind.u64.wrap z) % (M : Int)) = (k : Int) := by
  have h0 : 0 ≤ IntKind.u64.wrap z := by rw [IntKind.wrap_u64]; omega
  have h1 := Int.emod_nonneg (IntKind.u64.wrap z) (show (M : Int) ≠ 0 by omega)
  have h2 := Int.emod_lt_of_pos (IntKind.u64.wrap z) (show (0 : Int) < (M : Int) by omega)
  rw [Int.tmod_eq_emod_of_nonneg h0]
  obtain ⟨k, hk⟩ := Int.eq_ofNat_of_zero_le h1
  refine ⟨k, by omega, ?_, ?_⟩ <;> · rw [hk]; exact w64_nat k (by omega)
set_option linter.unusedSimpArgs false in
set_option maxRecDepth 100000 in
set_option maxHeartbeats 800000 in
theorem patched_any (b : List Bool) (x : Option Addr) (n c : Nat) (ps : List Pt) (xp : Option Addr) (np cp : Nat) (w : World) (hn : b.length = n) (hl : n ≤ 140737488355328) (hb : IsG w (.slice x n c) (bV b)) (hnp : ps.length = np) (hlp : np ≤ 140737488355328) (hp : IsK patE w (.slice xp np cp) ps) :
    Calls Try.prog 14 #[.slice x n c, .slice xp np cp] w fun e w' => ∃ y c' ds, e = .returned (.slice y (manyN n) c') ∧ ds.length = manyN n ∧ OwnK secE w' w.heap.size (.slice y (manyN n) c') ds ∧ Below w.heap.size w w' := by
  have hm3 := manyN_le n
  obtain ⟨M, hM⟩ : ∃ M, manyN n = M := ⟨_, rfl⟩
  have hput := refPut_any b x n c w hn hl hb
  rw [hM] at hput hm3 ⊢
  go_enter Try.func14, Try.ntmps14
  go_wp2_with fail
  go_at_call 11
  refine hput.mono ?_
  rintro e w1 ⟨y, c', rfl, hO, hB1⟩
  clear hput
  have hlen : (putL b).length = M := by rw [putL_len, hn, hM]
  go_wp2_with fail
  go_loopw [13] (fun v wr => ∃ (i : Nat) (ds : List Sc), i ≤ np ∧ v = .int .i64 i ∧ ds.length = M ∧ OwnK secE wr w.heap.size (.slice y M c') ds ∧ Below w.heap.size w wr) (fun v _ => np - (intOf v).toNat)
  case atStart => exact ⟨0, putL b, by omega, rfl, hlen, hO, hB1⟩
  case round =>
    clear hO hB1 hlen
    obtain ⟨i, ds, hi, rfl, hdl, hO, hB⟩ := hrel
    by_cases hlt : i < np
    · have hlt' : (i : Int) < (np : Int) := by omega
      obtain ⟨p, hpi⟩ : ∃ p, ps[i]? = some p := ⟨ps[i], List.getElem?_eq_getElem (by omega)⟩
      obtain ⟨b1, o1, rfl, hb1, hr1⟩ := (hp.kept hB).at i p hpi
      obtain ⟨ok1, rg1⟩ := rg_of hr1 (patE_ok.len p)
      rw [patE_enc, Array.toArray_toList] at rg1
      rw [patE_k] at ok1 rg1
      clear hr1
      go_upto_region 5 with fail
      have hX : Below wr.heap.size wr (wr.alloc (.cells (patA p) 57)) := below_alloc _ _
      have hRp : RowC (wr.alloc (.cells (patA p) 57)) wr.heap.size (patA p) := RowC.new _ _ _
      have hO1 := hO.keep hX
      have hB1 := hB.trans (hX.mono hB.size)
      have hwg : w.heap.size ≤ wr.heap.size := hB.size
      have hgl : ∀ g, (Value.slice y M c').ownBlock = some g → g < wr.heap.size := fun g hg => (World.ownsRow.lt hO g hg).2
      clear hO hB hX ok1 rg1
      generalize wr.alloc (.cells (patA p) 57) = X at hRp hO1 hB1 ⊢
      generalize wr.heap.size = gp at hRp hwg hgl ⊢
      have HO : Hid (OwnK secE X w.heap.size (.slice y M c') ds) := hO1
      have HB : Hid (Below w.heap.size w X) := hB1
      clear hO1 hB1
      by_cases h30 : i = 30
      · have h30' : (i : Int) = 30 := by omega
        go_wp2
        go_ret
        exact ⟨y, c', ds, rfl, hdl, HO.out, HB.out⟩
      · have h30' : ((i : Int) == 30) = false := by simp; omega
        by_cases hM0 : M = 0
        · have hM1 : ((M : Int) == 0) = true := by simp; omega
          go_wp2
          go_ret
          exact ⟨y, c', ds, rfl, hdl, HO.out, HB.out⟩
        · have hM1 : ((M : Int) == 0) = false := by simp; omega
          have c0 := hRp.cell 0
          have c1 := hRp.cell 1
          have c2 := hRp.cell 2
          have c3 := hRp.cell 3
          rw [patA_0] at c0
          rw [patA_1] at c1
          rw [patA_2] at c2
          rw [patA_3] at c3
          obtain ⟨k, hk, hk1, hk2⟩ := uint_mod p.s M (by omega) (by omega)
          obtain ⟨j, hj, hj1, hj2⟩ := uint_mod p.a 64 (by omega) (by omega)
          obtain ⟨gl, rfl, -⟩ := OwnK.form HO.out (by omega)
          have hglp : gl < gp := hgl gl rfl
          have hglw : w.heap.size ≤ gl := by obtain ⟨_, _, h2, _⟩ := OwnK.heap HO.out; exact h2
          have HK : Hid (_ ∧ _) := And.intro hk1 hk2
          have HJ : Hid (_ ∧ _) := And.intro hj1 hj2
          clear hk1 hk2 hj1 hj2 hgl
          go_upto_region 7 with fail
          have hk1 := HK.out.1
          simp only [hk1]
          clear hk1 HK c0
          have hj1 : wrap64 ((IntKind.u64.wrap p.a).tmod 64) = (j : Int) := HJ.out.1
          clear HJ
          obtain ⟨T, hT⟩ : ∃ T, ds[k]? = some T := ⟨ds[k]'(by omega), List.getElem?_eq_getElem (by omega)⟩
          have hca := OwnK.cellAt HO.out k T hT j hj
          obtain ⟨A, hA⟩ : ∃ A, T j = A := ⟨_, rfl⟩
          obtain ⟨B, hBd⟩ : ∃ B, A ^^^ p.y = B := ⟨_, rfl⟩
          rw [hA] at hca
          have F1 : Hid (IntKind.i64.wrap ((IntKind.u64.wrap p.a).tmod 64) = (j : Int)) := by
            show _ = _
            rw [IntKind.wrap_i64]
            unfold wrap64 at hj1
            exact hj1
          have F4 : Hid (bits .xor .u8 (A.toNat : Int) (p.y.toNat : Int) = (B.toNat : Int)) := by show _ = _; rw [xor87, hBd]
          have FK : Hid ((k : Int) < (M : Int)) := by show _ < _; omega
          have FJ : Hid ((0 : Int) ≤ (j : Int) ∧ (j : Int) < 64) := by show _ ∧ _; omega
          have HRp : Hid (RowC X gp (patA p)) := hRp
          clear hA hBd hRp hj1
          refine wp_reliesT [Fx (.slice (some ⟨gl, 0, none⟩) M c'), Fx (.int .i64 ((k : Int))), Fx (.pointer (some ⟨gp, 1, none⟩)), Fx (.int .i64 (p.a)), Fx (.int .u64 (IntKind.u64.wrap p.a)), Fx (.int .u64 ((IntKind.u64.wrap p.a).tmod 64)), Fx (.int .i64 ((j : Int))), Fx (.pointer (some ⟨gl, k * 64, none⟩)), Fx (.pointer (some ⟨gl, k * 64 + j, none⟩)), Fx (.int .u8 (A.toNat : Int)), Fx (.pointer (some ⟨gp, 2, none⟩)), Fx (.int .u8 (p.y.toNat : Int)), Fx (.int .u8 (B.toNat : Int)), Fx (.pointer (some ⟨gl, k * 64, none⟩)), Fx (.pointer (some ⟨gl, k * 64 + j, none⟩))] (by kernel_rfl) (by kernel_rfl) ?_ ?_ ?_
          · repeat' (first | exact all_nil | apply all_cons)
            all_goals intro v y y' hv hb
            all_goals first | exact Fx_mono _ _ _ _ hv hb
          · refine ⟨?_, ?_, ?_, ?_, ?_, ?_, ?_, ?_, ?_, ?_, ?_, ?_, ?_, ?_, ?_, trivial⟩
            all_goals
              intro ρ x hp2 ρc ρg ρf ho hd
              have o5 : ρ (.tmp 5) = .slice (some ⟨gl, 0, none⟩) M c' := ho 5 rfl
              have o8 : ρ (.tmp 8) = .int .i64 ((k : Int)) := ho 8 rfl
              have o7 : ρ (.tmp 7) = .pointer (some ⟨gp, 0, none⟩) := ho 7 rfl
              clear ho
              have k1 := cell_later hp2 hca
              have k2 := cell_later hp2 c1
              have k3 := cell_later hp2 c2
              simp only [depsR, depR, slotR, Fx, List.getElem?_cons_succ, List.getElem?_cons_zero, Region.binds, forall_const] at hd
              simp only [guardR]
              go_split_ands
            · go_simp
            · go_simp
            · go_simp
            · go_simp
            · go_simp
            · go_simp
            · have hq := F1.out
              go_simp
            · have hq := FK.out
              go_simp
            · obtain ⟨q1, q2⟩ := FJ.out
              go_simp
            · go_simp
            · go_simp
            · go_simp
            · have hq := F4.out
              go_simp
            · have hq := FK.out
              go_simp
            · obtain ⟨q1, q2⟩ := FJ.out
              go_simp
          · intro vs x1 hp2 hw
            simp only [owed, Fx] at hw
            obtain ⟨e0, e1, e2, e3, e4, e5, e6, e7, e8, e9, e10, e11, e12, e13, e14, -⟩ := hw
            simp only [List.length_cons, List.length_nil, List.take_succ_cons, List.take_zero, List.drop_succ_cons, List.drop_zero, asg, List.cons_append, List.nil_append, e0, e1, e2, e3, e4, e5, e6, e7, e8, e9, e10, e11, e12, e13, e14]
            clear e0 e1 e2 e3 e4 e5 e6 e7 e8 e9 e10 e11 e12 e13 e14
            have hO1 := OwnK.keep HO.out hp2
            have hB1 := HB.out.trans (hp2.mono (Below.size HB.out))
            have hc1 := cell_later hp2 hca
            have hf1 := hO1.cellOf k j
            have hO2 := hO1.byte k j T B hT hj
            have hB2 := hB1.setCell (p := ⟨gl, k * 64 + j, none⟩) hglw (.int .u8 (B.toNat : Int))
            have hRp2 := (RowC.kept HRp.out hp2).set_ne (k * 64 + j) (.int .u8 (B.toNat : Int)) (show gl ≠ gp by omega)
            have H2 : Hid (OwnK secE (x1.setCell ⟨gl, k * 64 + j, none⟩ (.int .u8 (B.toNat : Int))) w.heap.size (.slice (some ⟨gl, 0, none⟩) M c') (ds.set k (upd T j B))) := hO2
            have HB2 : Hid (Below w.heap.size w (x1.setCell ⟨gl, k * 64 + j, none⟩ (.int .u8 (B.toNat : Int)))) := hB2
            clear hO1 hB1 hp2 hO2 hB2 HO HB HRp F1 F4 FK FJ hca
            go_upto_region 8 with fail
            clear hc1 hf1
            generalize x1.setCell ⟨gl, k * 64 + j, none⟩ (.int .u8 (B.toNat : Int)) = X3 at H2 HB2 hRp2 ⊢
            have c3' := hRp2.cell 3
            rw [patA_3] at c3'
            have hds2 : (ds.set k (upd T j B)).length = M := by rw [List.length_set]; exact hdl
            have hgT : (ds.set k (upd T j B))[k]? = some (upd T j B) := by rw [set_get _ _ _ _ (by omega), if_pos rfl]
            clear hRp2 c1 c2 c3
            cases hz : p.z
            · rw [hz] at c3'
              go_wp2
              go_roundw
              case rel => exact ⟨i + 1, ds.set k (upd T j B), by omega, by go_num, hds2, H2.out, HB2.out⟩
              case measure => simp [intOf]; omega
            · rw [hz] at c3'
              have hr := OwnK.range secE_ok H2.out k _ hgT
              obtain ⟨ok2, rg2⟩ := rg_of hr (secE_ok.len _)
              rw [secE_arr] at rg2
              rw [secE_k] at ok2 rg2
              clear hr
              have hkM' : (k : Int) < (M : Int) := by omega
              go_wp2_with fail
              go_at_call 23
              refine (refSeal7_any (upd T j B) _).mono ?_
              rintro e w5 ⟨rfl, hb5⟩
              have hO5 := OwnK.keep H2.out hb5
              have hB5 := HB2.out.trans (hb5.mono (Below.size HB2.out))
              have hst := hO5.store secE_ok k (sealS (upd T j B)) (by omega)
              have hO6 := hO5.put secE_ok k (sealS (upd T j B)) (by omega)
              rw [secE_k] at hst hO6
              rw [secE_arr] at hst
              have hst2 : (secStore (.pointer (some ⟨gl, k * 64, none⟩)) (.agg (secA (sealS (upd T j B))))).run Try.prog w5 = .ok .skip (w5.setCells gl (k * 64) (secE.enc (sealS (upd T j B)))) := by
                have h9 : (Instr.storeAt 29 (.pointer (some ⟨gl, k * 64, none⟩)) (.agg (secA (sealS (upd T j B))))).run Try.prog w5 = .ok () (w5.setCells gl (k * 64) (secE.enc (sealS (upd T j B)))) := hst
                simp only [secStore, Sem.run_bind, h9, Result.andThen_ok]
                rfl
              have HO6 : Hid (OwnK secE (w5.setCells gl (k * 64) (secE.enc (sealS (upd T j B)))) w.heap.size (.slice (some ⟨gl, 0, none⟩) M c') ((ds.set k (upd T j B)).set k (sealS (upd T j B)))) := hO6
              have HB6 : Hid (Below w.heap.size w (w5.setCells gl (k * 64) (secE.enc (sealS (upd T j B))))) := hB5.trans (hO5.below (grown_setC w5 gl (k * 64) (secE.enc (sealS (upd T j B)))) hB5.size)
              have hds3 : ((ds.set k (upd T j B)).set k (sealS (upd T j B))).length = M := by rw [List.length_set]; exact hds2
              clear hst hO6 hO5 hB5 hb5 H2 HB2 ok2 rg2
              generalize w5.setCells gl (k * 64) (secE.enc (sealS (upd T j B))) = X6 at hst2 HO6 HB6
              go_wp2
              go_roundw
              case rel => exact ⟨i + 1, _, by omega, by go_num, hds3, HO6.out, HB6.out⟩
              case measure => simp [intOf]; omega
    · obtain rfl : i = np := by omega
      go_wp2
      go_ret
      exact ⟨y, c', ds, rfl, hdl, hO, hB⟩
end Go.Proofs.Ytfnffkommcepoaa
