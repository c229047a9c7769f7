import Derived.Test.YtiokdcffpnjkcaaDoorQLexd
import Derived.Test.YtiokdcffpnjkcaaDoorQLexc
import Derived.Test.YtiokdcffpnjkcaaDoorQApt
import Derived.Test.YtiokdcffpnjkcaaDoorQLit
import Derived.Laws.StructEq
namespace Go.Proofs.YtiokdcffpnjkcaaDoor
open Go.RowKit

/-! assaylaw14's mark, apart -/
def mk14 (i j : Nat) : Tk := ⟨-1 - (i : Int), -1 - (j : Int), 0, []⟩
set_option linter.unusedSimpArgs false in
set_option maxRecDepth 100000 in
theorem mark14_any (i j : Nat) (hi : i < 4611686018427387904) (hj : j < 4611686018427387904) (w : World) : Calls Tryd.prog 24 #[.int .i64 (i : Int), .int .i64 (j : Int)] w fun e w' => e = .returned (.agg (tkR (mk14 i j))) ∧ Below w.heap.size w w' := by
  have h1 : IntKind.i64.wrap (-1 - (i : Int)) = -1 - (i : Int) := by rw [IntKind.wrap_i64]; omega
  have h2 : IntKind.i64.wrap (-1 - (j : Int)) = -1 - (j : Int) := by rw [IntKind.wrap_i64]; omega
  go_enter Tryd.func24, Tryd.ntmps24
  go_wp2
  exact bodyPost_ret (results_cell_row (P := Tryd.prog) rfl _ _ w.heap.size 31 (tkR (mk14 i j)) (0, 0) _ rfl (heap_alloc_last _ _) Tryd.underlying31 rfl (by kernel_rfl)) rfl ⟨rfl, below_alloc _ _⟩
theorem elt14 : Elt 43 26 24 := ⟨Tryd.underlying43, by
  have h : (Tryd.prog.info? 26).map (fun i => (i.zero, i.size, i.bytes)) = some (some (.slice none 0 0), 1, 24) := by kernel_rfl
  obtain ⟨i, hi, hzz⟩ := Option.map_eq_some_iff.1 h
  simp only [Prod.mk.injEq] at hzz
  exact ⟨i, _, hi, hzz.1, hzz.2.1, hzz.2.2, rfl⟩⟩
theorem lenK14 {w : World} {B : Nat} {v : Value} {ds : List Tk} (h : OwnK tkEL w B v ds) : ∃ x c, v = .slice x ds.length c := (h.isK tkEL_ok).len
def ltLoad (p : Value) : Sem Next := do pure (.value (← Instr.loadAt 31 p))
def ltStore (p x : Value) : Sem Next := do Instr.storeAt 31 p x; pure .skip
def ltBin (op : BinOp) (x y : Operand) (u v : Value) : Sem Next := do pure (.value (← (do eqGuard op 31 x y u v; binOp op 31 u v)))
def ltBS2 (x y : Value) : Sem Next := do pure (.value (← Instr.buildSlice 26 2 #[(0, x), (1, y)]))
theorem ltLoad_at {w : World} {b o : Nat} {d : Tk} (h : w.rangeAt b o (tkEL.enc d)) : (ltLoad (.pointer (some ⟨b, o, none⟩))).run Tryd.prog w = .ok (.value (.agg (tkR d))) w := by
  have h9 := run_loadK tkEL_ok h
  simp only [ltLoad, Sem.run_bind]
  rw [show (Instr.loadAt 31 (.pointer (some ⟨b, o, none⟩))).run Tryd.prog w = .ok (.agg (tkR d)) w from by rw [show tkR d = (tkEL.enc d).toArray from by simp [tkEL]]; exact h9]
  rfl
theorem ltStore_at {w : World} {B g n c : Nat} {ms : List Tk} (h : OwnK tkEL w B (.slice (some ⟨g, 0, none⟩) n c) ms) (K : Nat) (d : Tk) (hK : K < n) : (ltStore (.pointer (some ⟨g, K * 4, none⟩)) (.agg (tkR d))).run Tryd.prog w = .ok .skip (w.setCells g (K * 4) (tkR d).toList) := by
  have h9 := h.store tkEL_ok K d hK
  simp only [ltStore, Sem.run_bind]
  rw [show (Instr.storeAt 31 (.pointer (some ⟨g, K * 4, none⟩)) (.agg (tkR d))).run Tryd.prog w = .ok () (w.setCells g (K * 4) (tkR d).toList) from by rw [show tkR d = (tkEL.enc d).toArray from by simp [tkEL]]; exact h9]
  rfl
@[go_sem] theorem ltNeq_self (w : World) (x y : Operand) (d : Tk) : (ltBin .neq x y (.agg (tkR d)) (.agg (tkR d))).run Tryd.prog w = .ok (.value (.bool false)) w := by
  unfold ltBin tkR tkA
  go_simp
@[go_sem] theorem run_ltBS2 (w : World) (a b : Tk) : (ltBS2 (.agg (tkR a)) (.agg (tkR b))).run Tryd.prog w = .ok (.value (.slice (some ⟨w.heap.size, 0, none⟩) 2 2)) (w.alloc (.cells (flK tkEL [a, b]).toArray 31)) := by
  have h := run_litK tkEL_ok w [a, b] (by show 0 < 2; omega) (by show 2 * 4 ≤ 10000; omega)
  simp only [ltBS2, Sem.run_bind]
  rw [show (Instr.buildSlice 26 2 #[(0, .agg (tkR a)), (1, .agg (tkR b))]).run Tryd.prog w = .ok (.slice (some ⟨w.heap.size, 0, none⟩) 2 2) (w.alloc (.cells (flK tkEL [a, b]).toArray 31)) from h]
  rfl
section
variable (ρ : Operand → Value) (dst : Option Tmp) (ty ty' : TypeId) (pos : String) (after : Array Edge) (guard : Option (Nat × Bool))
@[go_sem ↓] theorem execOp_ltLoad (x : Operand) : execOp ρ { dst, op := .load 31 x, type := ty, pos, after, guard } = ltLoad (ρ x) := rfl
@[go_sem ↓] theorem execOp_ltStore (x y : Operand) : execOp ρ { dst, op := .store 31 x y, type := ty, pos, after, guard } = ltStore (ρ x) (ρ y) := rfl
@[go_sem ↓] theorem execOp_ltBin (op : BinOp) (x y : Operand) : execOp ρ { dst, op := .binOp op 31 x y ty', type := ty, pos, after, guard } = ltBin op x y (ρ x) (ρ y) := rfl
@[go_sem ↓] theorem execOp_ltBS2 (x y : Operand) : execOp ρ { dst, op := .buildSlice 26 2 #[(0, x), (1, y)], type := ty, pos, after, guard } = ltBS2 (ρ x) (ρ y) := by simp [execOp, ltBS2]
end
set_option linter.unusedSimpArgs false in
set_option maxRecDepth 100000 in
set_option maxHeartbeats 1600000 in
theorem apart14_any (vs : List Value) (d : Nat → List Tk) (base gl N : Nat) (w : World) (h : FiveK tkEL w base gl vs d) (hN : vs.length = N) (hN0 : 0 < N) (hn : N ≤ 100) (hl : ∀ k, k < N → ((d k).length + 2) * 40 ≤ 140737488355328) (hb : base ≤ w.heap.size) :
    Calls Tryd.prog 14 #[.slice (some ⟨gl, 0, none⟩) N N] w fun e w' => e = .returned (.bool true) ∧ Below base w w' := by
  go_enter Tryd.func14, Tryd.ntmps14
  go_wp2_with fail
  go_loopw [14] (fun i wr => ∃ q : Nat, q ≤ N ∧ i = .int .i64 q ∧ FiveK tkEL wr base gl vs (stgK mk14 d q 0) ∧ Below base w wr) (fun i _ => N - (intOf i).toNat)
  case atStart => exact ⟨0, by omega, rfl, by rw [stgK_zero mk14]; exact h, Below.refl _ _⟩
  case round =>
    obtain ⟨q, hq, rfl, hF, hB⟩ := hrel
    by_cases hlt : q < N
    · obtain ⟨v, hv⟩ : ∃ v, vs[q]? = some v := ⟨vs[q]'(by omega), List.getElem?_eq_getElem (by omega)⟩
      obtain ⟨x, c, rfl⟩ := lenK14 (hF.own q v hv)
      rw [stgK_len mk14 d q 0 (by omega)] at hv
      obtain ⟨n, hnq⟩ : ∃ n, (d q).length = n := ⟨_, rfl⟩
      rw [hnq] at hv
      have hln := hl q hlt
      rw [hnq] at hln
      have hc := hF.row q _ hv
      have hq0 : (0 : Int) ≤ (q : Int) := by omega
      have hqN : (q : Int) < (N : Int) := by omega
      go_wp2_with fail
      clear hc
      go_loopw [21] (fun j wr => ∃ p : Nat, p ≤ n ∧ j = .int .i64 p ∧ FiveK tkEL wr base gl vs (stgK mk14 d q p) ∧ Below base w wr) (fun j _ => n - (intOf j).toNat)
      case atStart => exact ⟨0, by omega, rfl, hF, hB⟩
      case round =>
        clear hF hB
        obtain ⟨p, hp, rfl, hF, hB⟩ := hrel
        by_cases hlp : p < n
        · have hO := hF.own q _ hv
          have hL := stgK_len mk14 d q p (by omega)
          obtain ⟨g, rfl, hgl⟩ := OwnK.form hO (by omega)
          have hp0 : (0 : Int) ≤ (p : Int) := by omega
          have hpn : (p : Int) < (n : Int) := by omega
          go_wp2_with fail
          refine (mark14_any q p (by omega) (by omega) _).mono ?_
          rintro e w1 ⟨rfl, hw1⟩
          have hF1 := hF.later hw1
          have hO1 := hF1.own q _ hv
          have hst := ltStore_at hO1 p (mk14 q p) (by omega)
          have hB1 := hB.trans (hw1.mono (Nat.le_trans hb hB.size))
          have hG1 := grown_setC w1 g (p * 4) (tkR (mk14 q p)).toList
          have HB : Hid _ := hB1.trans (OwnK.below hO1 hG1 (Nat.le_trans hb hB1.size))
          have hF2 := hF1.step hv hG1 (hO1.put tkEL_ok p (mk14 q p) (by omega))
          rw [stgK_put mk14 d q p (by omega)] at hF2
          have HF : Hid _ := hF2
          clear hF hB hF1 hO hO1 hB1 hG1 hF2 hw1 hL
          go_wp2
          go_roundw
          case rel => exact ⟨p + 1, by omega, by go_num, HF.out, HB.out⟩
          case measure => simp [intOf]; omega
        · obtain rfl : p = n := by omega
          have hF2 : FiveK tkEL wr base gl vs (stgK mk14 d (q + 1) 0) := by rw [← stgK_next mk14, hnq]; exact hF
          have HF : Hid _ := hF2
          have HB : Hid _ := hB
          clear hF hB hF2
          go_wp2
          go_roundw
          case rel => exact ⟨q + 1, by omega, by go_num, HF.out, HB.out⟩
          case measure => simp [intOf]; omega
    · obtain rfl : q = N := by omega
      obtain ⟨dn, hdn⟩ : ∃ f : Nat → Nat, ∀ k, (d k).length = f k := ⟨_, fun _ => rfl⟩
      have hF5 : FiveK tkEL wr base gl vs (fun k => mkM mk14 k (dn k)) := hF.eq (fun k hk => by rw [stgK_end mk14 d q k (by omega), hdn])
      have hl2 : ∀ k, k < q → (dn k + 2) * 40 ≤ 140737488355328 := fun k hk => by rw [← hdn]; exact hl k hk
      clear hF h hq hdn hl
      go_wp2_with fail
      go_loopw [6, 34] (fun vm i wr => ∃ (p : Nat) (us : List Value), p ≤ q ∧ us.length = p ∧ i = .int .i64 p ∧ SixK tkEL mk14 wr base gl vs dn us vm ∧ Below base w wr) (fun _ i _ => q - (intOf i).toNat)
      case atStart => exact ⟨0, [], by omega, rfl, rfl, SixK.start hF5, hB⟩
      case round =>
        clear hF5 hB
        obtain ⟨p, us, hp, hus, rfl, hS, hB⟩ := hrel
        by_cases hlp : p < q
        · obtain ⟨v, hv⟩ : ∃ v, vs[p]? = some v := ⟨vs[p]'(by omega), List.getElem?_eq_getElem (by omega)⟩
          obtain ⟨x, c, rfl⟩ := lenK14 (hS.five.own p v hv)
          have hln := hl2 p hlp
          rw [mkM_len] at hv
          have hc := hS.five.row p _ hv
          have hq0 : (0 : Int) ≤ (p : Int) := by omega
          have hqN : (p : Int) < (q : Int) := by omega
          obtain ⟨m1, hm1⟩ : ∃ m, dn p + 1 = m := ⟨_, rfl⟩
          have hn1 : (dn p : Int) + 1 = (m1 : Int) := by omega
          have hwn : IntKind.i64.wrap (m1 : Int) = (m1 : Int) := by rw [IntKind.wrap_i64]; omega
          go_wp2_with fail
          refine (mark14_any p (dn p) (by omega) (by omega) _).mono ?_
          rintro e w1 ⟨rfl, hw1⟩
          go_wp2_with fail
          refine (mark14_any p m1 (by omega) (by omega) _).mono ?_
          rintro e w2 ⟨rfl, hw2⟩
          have hS2 := (hS.later hw1).later hw2
          have hB2 := hB.trans (hw1.mono (Nat.le_trans hb hB.size))
          replace hB2 := hB2.trans (hw2.mono (Nat.le_trans hb hB2.size))
          have hS3 := hS2.later (below_alloc w2 (.cells (flK tkEL [mk14 p (dn p), mk14 p m1]).toArray 31))
          have hB3 := hB2.alloc (Nat.le_trans hb hB2.size) (.cells (flK tkEL [mk14 p (dn p), mk14 p m1]).toArray 31)
          have hy := (OwnK.lit tkEL_ok w2 [mk14 p (dn p), mk14 p m1] (by show 2 ≤ maxLen; decide)).isK tkEL_ok
          have hO3 := hS3.five.own p _ hv
          clear hS2 hS hB hB2 hw1 hw2 hc
          obtain ⟨g, c', w4, hr, hOu, hOv, hg4, hat⟩ := run_appKeep tkEL_ok _ base (.slice x (dn p) c) (mkM mk14 p (dn p)) [mk14 p (dn p), mk14 p m1] (some ⟨w2.heap.size, 0, none⟩) 2 26 hO3 hy (by simp) (by rw [mkM_len]; exact hln) (by rw [mkM_len]; unfold maxLen; show dn p + 2 ≤ _; omega) (Nat.le_trans hb hB3.size)
          have e2 : [mk14 p (dn p), mk14 p m1].length = 2 := rfl
          rw [e2] at hr hOu
          rw [mkM_len] at hr hOu
          rw [← hm1, mkM_two] at hOu
          obtain ⟨hS4, huv, hgl, hmg⟩ := hS3.grow hv hus hg4 hOv hOu hat
          have hB4 := hB3.trans (OwnK.below hO3 hg4 (Nat.le_trans hb hB3.size))
          have hS5 := hS4.later (below_alloc w4 (.cells #[.slice (some ⟨g, 0, none⟩) (dn p + 2) c'] 26))
          have hOu5 := hOu.keep (below_alloc w4 (.cells #[.slice (some ⟨g, 0, none⟩) (dn p + 2) c'] 26))
          have hB5 := hB4.alloc (Nat.le_trans hb hB4.size) (.cells #[.slice (some ⟨g, 0, none⟩) (dn p + 2) c'] 26)
          obtain ⟨g2, c2, w6, hr2, hM6, hg6, hat6⟩ := run_app1MK elt14 (w4.alloc (.cells #[.slice (some ⟨g, 0, none⟩) (dn p + 2) c'] 26)) base w4.heap.size 1 u6 us (.slice (some ⟨g, 0, none⟩) (dn p + 2) c') 43 hS5.more (World.cell?_alloc_at _ _ _ _ rfl) rfl (by omega) (Nat.le_trans hb hB5.size)
          have hS6 := hS5.push hus hOu5 huv hgl hmg hg6 hM6 hat6
          have HB : Hid _ := hB5.trans (OwnG.below hS5.more hg6 (Nat.le_trans hb hB5.size))
          rw [hus] at hS6
          have HS : Hid _ := hS6
          have hus2 : (us ++ [Value.slice (some ⟨g, 0, none⟩) (dn p + 2) c']).length = p + 1 := by rw [List.length_append, hus]; rfl
          clear hS3 hS4 hS5 hS6 hB3 hB4 hB5 hO3 hOu hOv hOu5 hg4 hg6 hM6 hat hat6 hy huv hgl hmg hm1
          go_wp2_with (first | (at_builtin; refine wpL_appG 26 rfl _ _ rfl _ w4 (by exact hr) ?_) | (at_builtin; refine wpL_appG 43 rfl _ _ rfl _ w6 (by exact hr2) ?_))
          go_roundw
          case rel => exact ⟨p + 1, _, by omega, hus2, by go_num, HS.out, HB.out⟩
          case measure => simp [intOf]; omega
        · obtain rfl : p = q := by omega
          have hne : us ≠ [] := fun e => by rw [e] at hus; simp at hus; omega
          obtain ⟨gm, cm, rfl, -, hgm, -, -⟩ := hS.more.form hne
          rw [hus]
          obtain ⟨X, rfl⟩ : ∃ X, X = wr := ⟨_, rfl⟩
          go_wp2_with fail
          go_loopw [57] (fun i wr => ∃ k : Nat, k ≤ p ∧ i = .int .i64 k ∧ Below X.heap.size X wr) (fun i _ => p - (intOf i).toNat)
          case atStart => exact ⟨0, by omega, rfl, Below.refl _ _⟩
          case round =>
            obtain ⟨k, hk, rfl, hBk⟩ := hrel
            by_cases hlk : k < p
            · obtain ⟨u, hu⟩ : ∃ u, us[k]? = some u := ⟨us[k]'(by omega), List.getElem?_eq_getElem (by omega)⟩
              obtain ⟨v, hv⟩ : ∃ v, vs[k]? = some v := ⟨vs[k]'(by omega), List.getElem?_eq_getElem (by omega)⟩
              obtain ⟨xu, cu, rfl⟩ := lenK14 (hS.own k u hu)
              obtain ⟨xv, cv, rfl⟩ := lenK14 (hS.five.own k v hv)
              rw [mkM_len] at hu hv
              have hOu := hS.own k _ hu
              have hOv := hS.five.own k _ hv
              obtain ⟨gu, rfl, hgu⟩ := OwnK.form hOu (by rw [mkM_len]; omega)
              have hcm := hS.more.cell k _ hu
              have hcl := hS.five.row k _ hv
              have hgl := hS.five.lt
              have hcm1 := (hBk.cell hgm).trans hcm
              have hk0 : (0 : Int) ≤ (k : Int) := by omega
              have hkp : (k : Int) < (p : Int) := by omega
              obtain ⟨n2, hn2⟩ : ∃ m, dn k + 2 = m := ⟨_, rfl⟩
              rw [hn2] at hcm1 hOu
              have hl9 : n2 ≤ 140737488355328 := by have := hl2 k hlk; omega
              go_wp2_with fail
              clear hcm1
              go_loopw [64] (fun i wr => ∃ s : Nat, s ≤ n2 ∧ i = .int .i64 s ∧ Below X.heap.size X wr) (fun i _ => n2 - (intOf i).toNat)
              case atStart => exact ⟨0, by omega, rfl, hBk⟩
              case round =>
                clear hBk
                obtain ⟨s, hs, rfl, hBs⟩ := hrel
                by_cases hls : s < n2
                · obtain ⟨D, hD⟩ : ∃ D, mk14 k s = D := ⟨_, rfl⟩
                  have hmk := mark14_any k s (by omega) (by omega)
                  rw [hD] at hmk
                  have f1 : wr.rangeAt gu (s * 4) (tkEL.enc D) := (hOu.keep hBs).range tkEL_ok s D (by rw [mkM_get k n2 s hls, hD])
                  have hgu1 : gu < wr.heap.size := Nat.lt_of_lt_of_le hgu hBs.size
                  have hgl1 : gl < wr.heap.size := Nat.lt_of_lt_of_le hgl hBs.size
                  have hcl1 := (hBs.cell hgl).trans hcl
                  have hDD := fun (x y : Operand) (W : World) => ltNeq_self W x y D
                  have hs0 : (0 : Int) ≤ (s : Int) := by omega
                  have hsn : (s : Int) < (n2 : Int) := by omega
                  by_cases hb9 : s < dn k
                  · obtain ⟨gv, rfl, hgv⟩ := OwnK.form hOv (by rw [mkM_len]; omega)
                    have f2 : wr.rangeAt gv (s * 4) (tkEL.enc D) := (hOv.keep hBs).range tkEL_ok s D (by rw [mkM_get k (dn k) s hb9, hD])
                    have hgv1 : gv < wr.heap.size := Nat.lt_of_lt_of_le hgv hBs.size
                    have hsd : (s : Int) < (dn k : Int) := by omega
                    go_upto_region 22 with fail
                    refine wp_relies [Fx (.slice (some ⟨gu, 0, none⟩) n2 cu), Fx (.int .i64 (s : Nat)), Fx (.pointer (some ⟨gu, s * 4, none⟩)), Fx (.agg (tkR D)), Fx (.int .i64 (k : Nat)), Fx (.int .i64 (s : Nat)), Fx (.agg (tkR D)), Fx (.bool false), Fx (.bool false), Fx (.int .i64 (s : Nat)), Fx (.slice (some ⟨gl, 0, none⟩) p p), Fx (.int .i64 (k : Nat)), Fx (.pointer (some ⟨gl, k, none⟩)), Fx (.slice (some ⟨gv, 0, none⟩) (dn k) cv), Fx (.int .i64 (dn k : Nat)), Fx (.bool true), Fx (.bool true), Fx (.slice (some ⟨gl, 0, none⟩) p p), Fx (.int .i64 (k : Nat)), Fx (.pointer (some ⟨gl, k, none⟩)), Fx (.slice (some ⟨gv, 0, none⟩) (dn k) cv), Fx (.int .i64 (s : Nat)), Fx (.pointer (some ⟨gv, s * 4, none⟩)), Fx (.agg (tkR D)), Fx (.int .i64 (k : Nat)), Fx (.int .i64 (s : Nat)), Fx (.agg (tkR D)), Fx (.bool false), Fx (.bool false), Fx (.bool false)] (by kernel_rfl) (by kernel_rfl) ?_ ?_ ?_
                    · repeat' (first | exact all_nil | apply all_cons)
                      all_goals intro v y y' hv hb
                      all_goals first | exact Fx_mono _ _ _ _ hv hb
                    · refine ⟨?_, ?_, ?_, ?_, ?_, ?_, ?_, ?_, ?_, ?_, ?_, ?_, ?_, ?_, ?_, ?_, ?_, ?_, ?_, ?_, ?_, ?_, ?_, ?_, ?_, ?_, ?_, ?_, ?_, ?_, trivial⟩
                      all_goals
                        intro ρ x hp ρc ρg ρf ho hd
                        have o0 : ρ (.tmp 0) = .slice (some ⟨gl, 0, none⟩) p p := ho 0 rfl
                        have o9 : ρ (.tmp 9) = .int .i64 (k : Nat) := ho 9 rfl
                        have o10 : ρ (.tmp 10) = .slice (some ⟨gu, 0, none⟩) n2 cu := ho 10 rfl
                        have o11 : ρ (.tmp 11) = .int .i64 (s : Nat) := ho 11 rfl
                        clear ho
                        have k1' := ltLoad_at (range_later f1 hp)
                        have k3' := ltLoad_at (range_later f2 hp)
                        have c1 := (hp.cell hgl1).trans hcl1
                        simp only [depsR, depR, slotR, Fx, List.getElem?_cons_succ, List.getElem?_cons_zero, Region.binds, forall_const] at hd
                        simp only [guardR]
                        go_split_ands
                      · go_simp
                      · go_simp
                      · go_simp
                      · go_simp
                      · go_simp
                      · go_simp
                      · go_simp
                        refine (hmk x).mono ?_
                        rintro e x' ⟨rfl, hb⟩
                        exact ⟨_, rfl, rfl, hb⟩
                      · go_simp
                      · go_simp
                      · refine ⟨fun _ => ?_, fun hy => absurd (by simp [yieldR, slotR, *]) hy⟩
                        go_simp
                      · refine ⟨fun _ => ?_, fun hy => absurd (by simp [yieldR, slotR, *]) hy⟩
                        go_simp
                      · refine ⟨fun _ => ?_, fun hy => absurd (by simp [yieldR, slotR, *]) hy⟩
                        go_simp
                      · refine ⟨fun _ => ?_, fun hy => absurd (by simp [yieldR, slotR, *]) hy⟩
                        go_simp
                      · refine ⟨fun _ => ?_, fun hy => absurd (by simp [yieldR, slotR, *]) hy⟩
                        go_simp
                      · refine ⟨fun _ => ?_, fun hy => absurd (by simp [yieldR, slotR, *]) hy⟩
                        go_simp
                      · refine ⟨fun _ => ?_, fun hy => absurd (by simp [yieldR, slotR, *]) hy⟩
                        go_simp
                      · refine ⟨fun _ => ?_, fun hy => absurd (by simp [yieldR, slotR, *]) hy⟩
                        go_simp
                      · refine ⟨fun _ => ?_, fun hy => absurd (by simp [yieldR, slotR, *]) hy⟩
                        go_simp
                      · refine ⟨fun _ => ?_, fun hy => absurd (by simp [yieldR, slotR, *]) hy⟩
                        go_simp
                      · refine ⟨fun _ => ?_, fun hy => absurd (by simp [yieldR, slotR, *]) hy⟩
                        go_simp
                      · refine ⟨fun _ => ?_, fun hy => absurd (by simp [yieldR, slotR, *]) hy⟩
                        go_simp
                      · refine ⟨fun _ => ?_, fun hy => absurd (by simp [yieldR, slotR, *]) hy⟩
                        go_simp
                      · refine ⟨fun _ => ?_, fun hy => absurd (by simp [yieldR, slotR, *]) hy⟩
                        go_simp
                      · refine ⟨fun _ => ?_, fun hy => absurd (by simp [yieldR, slotR, *]) hy⟩
                        go_simp
                      · refine ⟨fun _ => ?_, fun hy => absurd (by simp [yieldR, slotR, *]) hy⟩
                        go_simp
                      · refine ⟨fun _ => ?_, fun hy => absurd (by simp [yieldR, slotR, *]) hy⟩
                        go_simp
                      · refine ⟨fun _ => ?_, fun hy => absurd (by simp [yieldR, slotR, *]) hy⟩
                        go_simp
                        refine (hmk x).mono ?_
                        rintro e x' ⟨rfl, hb⟩
                        exact ⟨_, rfl, rfl, hb⟩
                      · refine ⟨fun _ => ?_, fun hy => absurd (by simp [yieldR, slotR, *]) hy⟩
                        go_simp
                      · refine ⟨fun _ => ?_, fun hy => absurd (by simp [yieldR, slotR, *]) hy⟩
                        go_simp
                      · go_simp
                    · intro vs_1 x hp hw
                      simp only [owed, Fx] at hw
                      obtain ⟨e0, e1, e2, e3, e4, e5, e6, e7, e8, e9, e10, e11, e12, e13, e14, e15, e16, e17, e18, e19, e20, e21, e22, e23, e24, e25, e26, e27, e28, e29, -⟩ := hw
                      simp only [List.length_cons, List.length_nil, List.take_succ_cons, List.take_nil, List.drop_succ_cons, List.drop_nil, asg, List.cons_append, List.nil_append, e0, e1, e2, e3, e4, e5, e6, e7, e8, e9, e10, e11, e12, e13, e14, e15, e16, e17, e18, e19, e20, e21, e22, e23, e24, e25, e26, e27, e28, e29]
                      clear e0 e1 e2 e3 e4 e5 e6 e7 e8 e9 e10 e11 e12 e13 e14 e15 e16 e17 e18 e19 e20 e21 e22 e23 e24 e25 e26 e27 e28 e29
                      have HB : Hid _ := hBs.trans (hp.mono hBs.size)
                      clear hp hBs
                      go_wp2
                      go_roundw
                      case rel => exact ⟨s + 1, by omega, by go_num, HB.out⟩
                      case measure => simp [intOf]; omega
                  · have hsd : ¬ (s : Int) < (dn k : Int) := by omega
                    go_upto_region 22 with fail
                    refine wp_relies [Fx (.slice (some ⟨gu, 0, none⟩) n2 cu), Fx (.int .i64 (s : Nat)), Fx (.pointer (some ⟨gu, s * 4, none⟩)), Fx (.agg (tkR D)), Fx (.int .i64 (k : Nat)), Fx (.int .i64 (s : Nat)), Fx (.agg (tkR D)), Fx (.bool false), Fx (.bool false), Fx (.int .i64 (s : Nat)), Fx (.slice (some ⟨gl, 0, none⟩) p p), Fx (.int .i64 (k : Nat)), Fx (.pointer (some ⟨gl, k, none⟩)), Fx (.slice xv (dn k) cv), Fx (.int .i64 (dn k : Nat)), Fx (.bool false), Fx (.bool false), Fx (undef), Fx (undef), Fx (undef), Fx (undef), Fx (undef), Fx (undef), Fx (undef), Fx (undef), Fx (undef), Fx (undef), Fx (undef), Fx (.bool false), Fx (.bool false)] (by kernel_rfl) (by kernel_rfl) ?_ ?_ ?_
                    · repeat' (first | exact all_nil | apply all_cons)
                      all_goals intro v y y' hv hb
                      all_goals first | exact Fx_mono _ _ _ _ hv hb
                    · refine ⟨?_, ?_, ?_, ?_, ?_, ?_, ?_, ?_, ?_, ?_, ?_, ?_, ?_, ?_, ?_, ?_, ?_, ?_, ?_, ?_, ?_, ?_, ?_, ?_, ?_, ?_, ?_, ?_, ?_, ?_, trivial⟩
                      all_goals
                        intro ρ x hp ρc ρg ρf ho hd
                        have o0 : ρ (.tmp 0) = .slice (some ⟨gl, 0, none⟩) p p := ho 0 rfl
                        have o9 : ρ (.tmp 9) = .int .i64 (k : Nat) := ho 9 rfl
                        have o10 : ρ (.tmp 10) = .slice (some ⟨gu, 0, none⟩) n2 cu := ho 10 rfl
                        have o11 : ρ (.tmp 11) = .int .i64 (s : Nat) := ho 11 rfl
                        clear ho
                        have k1' := ltLoad_at (range_later f1 hp)
                        have c1 := (hp.cell hgl1).trans hcl1
                        simp only [depsR, depR, slotR, Fx, List.getElem?_cons_succ, List.getElem?_cons_zero, Region.binds, forall_const] at hd
                        simp only [guardR]
                        go_split_ands
                      · go_simp
                      · go_simp
                      · go_simp
                      · go_simp
                      · go_simp
                      · go_simp
                      · go_simp
                        refine (hmk x).mono ?_
                        rintro e x' ⟨rfl, hb⟩
                        exact ⟨_, rfl, rfl, hb⟩
                      · go_simp
                      · go_simp
                      · refine ⟨fun _ => ?_, fun hy => absurd (by simp [yieldR, slotR, *]) hy⟩
                        go_simp
                      · refine ⟨fun _ => ?_, fun hy => absurd (by simp [yieldR, slotR, *]) hy⟩
                        go_simp
                      · refine ⟨fun _ => ?_, fun hy => absurd (by simp [yieldR, slotR, *]) hy⟩
                        go_simp
                      · refine ⟨fun _ => ?_, fun hy => absurd (by simp [yieldR, slotR, *]) hy⟩
                        go_simp
                      · refine ⟨fun _ => ?_, fun hy => absurd (by simp [yieldR, slotR, *]) hy⟩
                        go_simp
                      · refine ⟨fun _ => ?_, fun hy => absurd (by simp [yieldR, slotR, *]) hy⟩
                        go_simp
                      · refine ⟨fun _ => ?_, fun hy => absurd (by simp [yieldR, slotR, *]) hy⟩
                        go_simp
                      · refine ⟨fun _ => ?_, fun hy => absurd (by simp [yieldR, slotR, *]) hy⟩
                        go_simp
                      · refine ⟨fun hy => ?_, fun _ => rfl⟩
                        exfalso; simp [yieldR, slotR, undef, *] at hy
                      · refine ⟨fun hy => ?_, fun _ => rfl⟩
                        exfalso; simp [yieldR, slotR, undef, *] at hy
                      · refine ⟨fun hy => ?_, fun _ => rfl⟩
                        exfalso; simp [yieldR, slotR, undef, *] at hy
                      · refine ⟨fun hy => ?_, fun _ => rfl⟩
                        exfalso; simp [yieldR, slotR, undef, *] at hy
                      · refine ⟨fun hy => ?_, fun _ => rfl⟩
                        exfalso; simp [yieldR, slotR, undef, *] at hy
                      · refine ⟨fun hy => ?_, fun _ => rfl⟩
                        exfalso; simp [yieldR, slotR, undef, *] at hy
                      · refine ⟨fun hy => ?_, fun _ => rfl⟩
                        exfalso; simp [yieldR, slotR, undef, *] at hy
                      · refine ⟨fun hy => ?_, fun _ => rfl⟩
                        exfalso; simp [yieldR, slotR, undef, *] at hy
                      · refine ⟨fun hy => ?_, fun _ => rfl⟩
                        exfalso; simp [yieldR, slotR, undef, *] at hy
                      · refine ⟨fun hy => ?_, fun _ => rfl⟩
                        exfalso; simp [yieldR, slotR, undef, *] at hy
                      · refine ⟨fun hy => ?_, fun _ => rfl⟩
                        exfalso; simp [yieldR, slotR, undef, *] at hy
                      · refine ⟨fun _ => ?_, fun hy => absurd (by simp [yieldR, slotR, *]) hy⟩
                        go_simp
                      · go_simp
                    · intro vs_1 x hp hw
                      simp only [owed, Fx] at hw
                      obtain ⟨e0, e1, e2, e3, e4, e5, e6, e7, e8, e9, e10, e11, e12, e13, e14, e15, e16, e17, e18, e19, e20, e21, e22, e23, e24, e25, e26, e27, e28, e29, -⟩ := hw
                      simp only [List.length_cons, List.length_nil, List.take_succ_cons, List.take_nil, List.drop_succ_cons, List.drop_nil, asg, List.cons_append, List.nil_append, e0, e1, e2, e3, e4, e5, e6, e7, e8, e9, e10, e11, e12, e13, e14, e15, e16, e17, e18, e19, e20, e21, e22, e23, e24, e25, e26, e27, e28, e29]
                      clear e0 e1 e2 e3 e4 e5 e6 e7 e8 e9 e10 e11 e12 e13 e14 e15 e16 e17 e18 e19 e20 e21 e22 e23 e24 e25 e26 e27 e28 e29
                      have HB : Hid _ := hBs.trans (hp.mono hBs.size)
                      clear hp hBs
                      go_wp2
                      go_roundw
                      case rel => exact ⟨s + 1, by omega, by go_num, HB.out⟩
                      case measure => simp [intOf]; omega
                · go_wp2
                  go_roundw
                  case rel => exact ⟨k + 1, by omega, by go_num, hBs⟩
                  case measure => simp [intOf]; omega
            · have HB : Hid _ := hB.trans (hBk.mono (Nat.le_trans hb hB.size))
              go_wp2
              go_ret
              exact ⟨rfl, HB.out⟩
end Go.Proofs.YtiokdcffpnjkcaaDoor
