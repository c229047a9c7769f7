import Derived.Test.YtiokdcffpnjkcaaDoorQLex2
import Derived.Test.YtiokdcffpnjkcaaDoorQRely
namespace Go.Proofs.YtiokdcffpnjkcaaDoor
open Go.RowKit

/-! assayref14.quoted -/
theorem lS_eq {s : ByteArray} {l : List UInt8} (h : lS s = l) : s = ⟨l.toArray⟩ := lS_inj (h.trans (lS_mk l).symm)
def quoR (v : Nat) : Option Nat → List UInt8
  | some i => [92, lB qSigns i]
  | none => if v < 32 then [92, 117, 48, 48, dgC (v / 16), dgC (v % 16)] else enc v
theorem quo_R (v : Nat) : quo v = quoR v (qAt v 7 0) := by
  unfold quo
  cases qAt v 7 0 <;> rfl
theorem lS_one (s : ByteArray) (k : Nat) (h : k < s.size) : lS (s.extract k (k + 1)) = [lB (lS s) k] := by
  have hk : k < (lS s).length := by rw [lS_len]; exact h
  rw [lS_cut, show k + 1 - k = 1 by omega, List.drop_eq_getElem_cons hk]
  unfold lB
  rw [List.getElem?_eq_getElem hk]; rfl
theorem dgC_at (n : Nat) (h : n < 16) : lB [48, 49, 50, 51, 52, 53, 54, 55, 56, 57, 97, 98, 99, 100, 101, 102] n = dgC n := by
  rcases (by omega : n = 0 ∨ n = 1 ∨ n = 2 ∨ n = 3 ∨ n = 4 ∨ n = 5 ∨ n = 6 ∨ n = 7 ∨ n = 8 ∨ n = 9 ∨ n = 10 ∨ n = 11 ∨ n = 12 ∨ n = 13 ∨ n = 14 ∨ n = 15) with rfl | rfl | rfl | rfl | rfl | rfl | rfl | rfl | rfl | rfl | rfl | rfl | rfl | rfl | rfl | rfl <;> decide
theorem qRunes_at (k : Nat) (h : k < 7) : (#[Value.int .i64 34, Value.int .i64 92, Value.int .i64 8, Value.int .i64 12, Value.int .i64 10, Value.int .i64 13, Value.int .i64 9] : Array Value)[k]? = some (.int .i64 ((qRunes.getD k 0 : Nat) : Int)) := by
  rcases (by omega : k = 0 ∨ k = 1 ∨ k = 2 ∨ k = 3 ∨ k = 4 ∨ k = 5 ∨ k = 6) with rfl | rfl | rfl | rfl | rfl | rfl | rfl <;> rfl
/-- What a call that answers a string leaves. -/
def StrP (l : List UInt8) (w : World) (e : Ending) (w' : World) : Prop := (∃ S, e = .returned (.string S) ∧ lS S = l) ∧ Below w.heap.size w w'
set_option linter.unusedSimpArgs false in
set_option maxRecDepth 100000 in
set_option maxHeartbeats 4000000 in
theorem refQuoted_any (v : Nat) (hv : v ≤ 1114111) (w : World) : Calls Tryd.prog 22 #[.int .i64 (v : Int)] w fun e w' => StrP (quo v) w e w' := by
  have bX := below_alloc w (.cells #[Value.int .i64 34, Value.int .i64 92, Value.int .i64 8, Value.int .i64 12, Value.int .i64 10, Value.int .i64 13, Value.int .i64 9] 3)
  have hce : Hid (∀ i, i < 7 → (w.alloc (.cells #[Value.int .i64 34, Value.int .i64 92, Value.int .i64 8, Value.int .i64 12, Value.int .i64 10, Value.int .i64 13, Value.int .i64 9] 3)).cell? ⟨w.heap.size, i, none⟩ = some (.int .i64 ((qRunes.getD i 0 : Nat) : Int))) := fun i hi => by
    rw [cell_of_row _ _ i _ _ _ (heap_alloc_last w _)]; exact qRunes_at i hi
  obtain ⟨RQ, hRQ⟩ : ∃ q, qAt v 7 0 = q := ⟨_, rfl⟩
  have HQ : Hid (quo v = quoR v RQ) := by show quo v = _; rw [quo_R, hRQ]
  have HR0 : Hid (qAt v (7 - 0) 0 = RQ) := hRQ
  clear hRQ
  go_enter Tryd.func22, Tryd.ntmps22
  go_upto_region 2 with fail
  obtain ⟨g, hg⟩ : ∃ q, w.heap.size = q := ⟨_, rfl⟩
  rw [hg] at hce
  simp only [hg]
  clear hg
  generalize w.alloc (.cells #[Value.int .i64 34, Value.int .i64 92, Value.int .i64 8, Value.int .i64 12, Value.int .i64 10, Value.int .i64 13, Value.int .i64 9] 3) = X at bX hce ⊢
  obtain ⟨QS, hQS⟩ : ∃ q, ByteArray.mk #[34, 92, 98, 102, 110, 114, 116] = q := ⟨_, rfl⟩
  have hqz : QS.size = 7 := by rw [← hQS]; rfl
  have HQL : Hid (lS QS = qSigns) := by show _ = _; rw [← hQS]; rfl
  have HQS : Hid _ := hQS
  clear hQS
  go_upto_region 3 with fail
  rw [HQS.out]
  clear HQS
  go_wp2_with fail
  go_loopw [5] (fun iv wr => ∃ k : Nat, k ≤ 7 ∧ iv = .int .i64 k ∧ Hid (qAt v (7 - k) k = RQ) ∧ wr = X) (fun iv _ => 7 - (intOf iv).toNat)
  case atStart => exact ⟨0, by omega, rfl, HR0, rfl⟩
  case round =>
    clear HR0
    obtain ⟨k, hk, rfl, HR, rfl⟩ := hrel
    by_cases hlt : k < 7
    · have i0 : (0 : Int) ≤ (k : Int) := by omega
      have i1 : (k : Int) < 7 := by omega
      have cc := hce.out k hlt
      have HR2 : Hid ((if v = qRunes.getD k 0 then some k else qAt v (7 - (k + 1)) (k + 1)) = RQ) := by
        show _ = RQ
        rw [← HR.out, show 7 - k = (7 - (k + 1)) + 1 by omega]; rfl
      obtain ⟨r, hr⟩ : ∃ q, qRunes.getD k 0 = q := ⟨_, rfl⟩
      rw [hr] at cc HR2
      clear hr HR
      by_cases he : v = r
      · have f0 : ((v : Int) == (r : Int)) = true := beq_iff_eq.2 (by omega)
        have hsz : (QS.extract k (k + 1)).size = 1 := by rw [← lS_len, lS_one QS k (by omega)]; rfl
        have hcut : ∀ W, (sCut (.string QS) (.int .i64 (k : Int)) (.int .i64 ((k : Int) + 1))).run Tryd.prog W = .ok (.value (.string (QS.extract k (k + 1)))) W := fun W => by
          have := run_sCut W QS k (k + 1) (by omega) (by omega)
          rw [← this]; rfl
        have HP : Hid (lS (⟨#[92]⟩ ++ QS.extract k (k + 1)) = quo v) := by
          show _ = _
          have h9 := HR2.out
          rw [if_pos he] at h9
          rw [HQ.out, ← h9, lS_app, lS_one QS k (by omega), HQL.out]; rfl
        clear HR2 he
        generalize QS.extract k (k + 1) = S1 at hsz hcut HP
        go_wp2
        go_ret
        exact ⟨⟨_, rfl, HP.out⟩, bX⟩
      · have f0 : ((v : Int) == (r : Int)) = false := beq_eq_false_iff_ne.2 (by omega)
        have HR3 : Hid (qAt v (7 - (k + 1)) (k + 1) = RQ) := by
          have h9 := HR2.out
          rw [if_neg he] at h9; exact h9
        clear HR2 he
        go_wp2
        go_roundw
        case rel => exact ⟨k + 1, by omega, by go_num, HR3, by trivial⟩
        case measure => simp [intOf]; omega
    · obtain rfl : k = 7 := by omega
      have HQ2 : Hid (quo v = if v < 32 then [92, 117, 48, 48, dgC (v / 16), dgC (v % 16)] else enc v) := by
        have h9 : none = RQ := HR.out
        show _ = _
        rw [HQ.out, ← h9]; rfl
      clear HR HQ hlt
      by_cases h32 : v < 32
      · have i1 : (v : Int) < 32 := by omega
        obtain ⟨a, ha⟩ : ∃ q, v / 16 = q := ⟨_, rfl⟩
        obtain ⟨b, hb⟩ : ∃ q, v % 16 = q := ⟨_, rfl⟩
        have ia : (v : Int) / 16 = (a : Int) := by omega
        have ib : (v : Int) % 16 = (b : Int) := by omega
        have HQ3 : Hid (quo v = [92, 117, 48, 48, dgC a, dgC b]) := by show _ = _; rw [HQ2.out, if_pos h32, ha, hb]
        have ha16 : a < 16 := by omega
        have hb16 : b < 16 := by omega
        clear ha hb HQ2
        obtain ⟨DG, hDG⟩ : ∃ q, ByteArray.mk #[48, 49, 50, 51, 52, 53, 54, 55, 56, 57, 97, 98, 99, 100, 101, 102] = q := ⟨_, rfl⟩
        have hdz : DG.size = 16 := by rw [← hDG]; rfl
        have hdl : lS DG = [48, 49, 50, 51, 52, 53, 54, 55, 56, 57, 97, 98, 99, 100, 101, 102] := by rw [← hDG]; rfl
        have sA : (DG.extract a (a + 1)).size = 1 := by rw [← lS_len, lS_one DG a (by omega)]; rfl
        have sB : (DG.extract b (b + 1)).size = 1 := by rw [← lS_len, lS_one DG b (by omega)]; rfl
        have hcA : ∀ W, (sCut (.string DG) (.int .i64 (a : Int)) (.int .i64 ((a : Int) + 1))).run Tryd.prog W = .ok (.value (.string (DG.extract a (a + 1)))) W := fun W => by
          have := run_sCut W DG a (a + 1) (by omega) (by omega)
          rw [← this]; rfl
        have hcB : ∀ W, (sCut (.string DG) (.int .i64 (b : Int)) (.int .i64 ((b : Int) + 1))).run Tryd.prog W = .ok (.value (.string (DG.extract b (b + 1)))) W := fun W => by
          have := run_sCut W DG b (b + 1) (by omega) (by omega)
          rw [← this]; rfl
        have HP : Hid (lS (⟨#[92, 117, 48, 48]⟩ ++ DG.extract a (a + 1) ++ DG.extract b (b + 1)) = quo v) := by
          show _ = _
          rw [HQ3.out, lS_app, lS_app, lS_one DG a (by omega), lS_one DG b (by omega), hdl, dgC_at a ha16, dgC_at b hb16]; rfl
        have HDG : Hid _ := hDG
        clear hdl HQ3 hDG
        generalize DG.extract a (a + 1) = DA at sA hcA HP
        generalize DG.extract b (b + 1) = DB at sB hcB HP
        have i16 : (0 : Int) ≤ (v : Int) := by omega
        go_upto_region 10 with fail
        rw [HDG.out]
        clear HDG
        have itm : (v : Int).tmod 16 = (b : Int) := by rw [Int.tmod_eq_emod_of_nonneg (by omega)]; exact ib
        have wa : IntKind.i64.wrap (a : Int) = (a : Int) := by rw [IntKind.wrap_i64]; omega
        have wb : IntKind.i64.wrap (b : Int) = (b : Int) := by rw [IntKind.wrap_i64]; omega
        have wa1 : IntKind.i64.wrap ((a : Int) + 1) = (a : Int) + 1 := by rw [IntKind.wrap_i64]; omega
        have wb1 : IntKind.i64.wrap ((b : Int) + 1) = (b : Int) + 1 := by rw [IntKind.wrap_i64]; omega
        refine wp_relies [Fx (.string DG), Fx (.int .i64 ((v : Int))), Fx (.int .i64 ((a : Int))), Fx (.int .i64 ((v : Int))), Fx (.int .i64 ((a : Int))), Fx (.int .i64 ((a : Int) + 1)), Fx (.string DA), Fx (.string (⟨#[92, 117, 48, 48]⟩ ++ DA)), Fx (.string DG), Fx (.int .i64 ((v : Int))), Fx (.int .i64 ((b : Int))), Fx (.int .i64 ((v : Int))), Fx (.int .i64 ((b : Int))), Fx (.int .i64 ((b : Int) + 1)), Fx (.string DB), Fx (.string (⟨#[92, 117, 48, 48]⟩ ++ DA ++ DB)), Fx (.string (⟨#[92, 117, 48, 48]⟩ ++ DA ++ DB))] (by kernel_rfl) (by kernel_rfl) ?_ ?_ ?_
        · repeat' (first | exact all_nil | apply all_cons)
          all_goals intro v y y' hv hb
          all_goals first | exact Fx_mono _ _ _ _ hv hb
        · refine ⟨?_, ?_, ?_, ?_, ?_, ?_, ?_, ?_, ?_, ?_, ?_, ?_, ?_, ?_, ?_, ?_, ?_, trivial⟩
          all_goals
            intro ρ y9 hp ρc ρg ρf ho hd
            have o6 : ρ (.tmp 6) = .string DG := ho 6 rfl
            have o0 : ρ (.tmp 0) = .int .i64 ((v : Int)) := ho 0 rfl
            clear ho
            simp only [depsR, depR, slotR, Fx, List.getElem?_cons_succ, List.getElem?_cons_zero, Region.binds, forall_const] at hd
            simp only [guardR]
            go_split_ands
          · go_simp
          · go_simp
          · go_simp
          · go_simp
          · go_simp
          · go_simp
          · have hq := hcA y9
            go_simp
          · go_simp
          · go_simp
          · go_simp
          · go_simp
          · go_simp
          · go_simp
          · go_simp
          · have hq := hcB y9
            go_simp
          · go_simp
          · go_simp
        · intro vs x1 hp hw
          simp only [owed, Fx] at hw
          obtain ⟨e0, e1, e2, e3, e4, e5, e6, e7, e8, e9, e10, e11, e12, e13, e14, e15, e16, -⟩ := hw
          simp only [List.length_cons, List.length_nil, List.take_succ_cons, List.take_nil, List.drop_succ_cons, List.drop_nil, asg, List.cons_append, List.nil_append, e0, e1, e2, e3, e4, e5, e6, e7, e8, e9, e10, e11, e12, e13, e14, e15, e16]
          clear e0 e1 e2 e3 e4 e5 e6 e7 e8 e9 e10 e11 e12 e13 e14 e15 e16
          go_wp2
          go_ret
          exact ⟨⟨_, rfl, HP.out⟩, bX.trans (hp.mono bX.size)⟩
      · have i1 : ¬ (v : Int) < 32 := by omega
        have HQ3 : Hid (quo v = enc v) := by show _ = _; rw [HQ2.out, if_neg h32]
        have hE := refEnc_any v hv wr
        clear HQ2
        go_wp2_with fail
        refine hE.mono ?_
        rintro e w1 ⟨rfl, hb⟩
        clear hE
        go_wp2
        go_ret
        exact ⟨⟨_, rfl, by rw [HQ3.out, lS_mk]⟩, bX.trans (hb.mono bX.size)⟩
end Go.Proofs.YtiokdcffpnjkcaaDoor
