import Derived.Test.YtalnbddkhojjbaaGreatDoorQMan7
import Derived.Test.YtalnbddkhojjbaaGreatDoorQGal
import Derived.Test.YtalnbddkhojjbaaGreatDoorQManB
namespace Go.Proofs.YtalnbddkhojjbaaGreatDoor
open Go.RowKit

def mk1 : Dc := ⟨dg_secZ, -1⟩
def mk2 : Dc := ⟨dg_secZ, -2⟩
def rep16 (m : Dc) (n : Nat) : List Dc := List.replicate n m
theorem rep16_len (m : Dc) (n : Nat) : (rep16 m n).length = n := by simp [rep16]
theorem rep16_at (m : Dc) (n i : Nat) (h : i < n) : (rep16 m n)[i]? = some m := by simp [rep16, h]
theorem rep16_succ (m : Dc) (n : Nat) : rep16 m n ++ [m] = rep16 m (n + 1) := by simp [rep16, List.replicate_succ']
theorem rep16_set (m : Dc) (ds : List Dc) (i : Nat) (h : i < ds.length) : (rep16 m i ++ ds.drop i).set i m = rep16 m (i + 1) ++ ds.drop (i + 1) := by
  rw [List.set_append_right _ _ (by rw [rep16_len]; exact Nat.le_refl _), rep16_len, Nat.sub_self, List.drop_eq_getElem_cons h, List.set_cons_zero, ← rep16_succ, List.append_assoc]
  rfl
theorem dc_store {W : World} {g o : Nat} {d : Dc} {W' : World} (h : (Instr.storeAt dcE.T (.pointer (some ⟨g, o, none⟩)) (.agg (dcE.enc d).toArray)).run Tryz.prog W = .ok () W') : (bigStore 35 (.pointer (some ⟨g, o, none⟩)) (.agg (dcA d))).run Tryz.prog W = .ok .skip W' := by
  rw [dcE_enc] at h
  simp only [bigStore, Sem.run_bind]
  rw [show (Instr.storeAt 35 (.pointer (some ⟨g, o, none⟩)) (.agg (dcA d))).run Tryz.prog W = .ok () W' from h]
  rfl
set_option linter.unusedSimpArgs false in
set_option maxRecDepth 100000 in
set_option maxHeartbeats 16000000 in
theorem apart16_any {W : World} {B : Nat} {T0 : Nat → Option Th} (h : Ga W B T0) (k1 k2 : Nat) (hk : k1 ≠ k2) (x y : Option Addr) (nx cx ny cy : Nat) (dx dy : List Dc) (h1 : T0 k1 = some (thK dcE B (.slice x nx cx) dx)) (h2 : T0 k2 = some (thK dcE B (.slice y ny cy) dy)) (hnx : nx ≤ 1000) (hny : ny ≤ 1000) :
    Calls Tryz.prog 12 #[.slice x nx cx, .slice y ny cy] W fun e wr => e = .returned (.bool true) ∧ ∃ T, Ga wr B T ∧ (∀ k, k ≠ k1 → k ≠ k2 → T k = T0 k) ∧ Below B W wr := by
  have HD : Hid (dx.length = nx ∧ dy.length = ny) := ⟨((h.isK h1).isK dcE_ok).cap.1.symm, ((h.isK h2).isK dcE_ok).cap.1.symm⟩
  have HI : Hid (∃ T, Ga W B T ∧ T k1 = some (thK dcE B (.slice x nx cx) (rep16 mk1 0 ++ dx.drop 0)) ∧ T k2 = some (thK dcE B (.slice y ny cy) dy) ∧ (∀ k, k ≠ k1 → k ≠ k2 → T k = T0 k) ∧ Below B W W) := ⟨T0, h, by rw [h1]; rfl, h2, fun _ _ _ => rfl, Below.refl _ _⟩
  clear h h1 h2
  go_enter Tryz.func12, Tryz.ntmps12
  go_wp2
  go_loopw [5] (fun iv wr => ∃ i : Nat, i ≤ nx ∧ iv = .int .i64 (i : Int) ∧ ∃ T, Ga wr B T ∧ T k1 = some (thK dcE B (.slice x nx cx) (rep16 mk1 i ++ dx.drop i)) ∧ T k2 = some (thK dcE B (.slice y ny cy) dy) ∧ (∀ k, k ≠ k1 → k ≠ k2 → T k = T0 k) ∧ Below B W wr) (fun iv _ => nx - (intOf iv).toNat)
  case atStart => exact ⟨0, by omega, rfl, HI.out⟩
  case round =>
    clear HI
    obtain ⟨i, hi, rfl, T, hG, g1, g2, gf, hB⟩ := hrel
    by_cases hlt : i < nx
    · have i0 : (0 : Int) ≤ (i : Int) := by omega
      have i1 : (i : Int) < (nx : Int) := by omega
      have hO := hG.isK g1
      have hdl : i < dx.length := by have := HD.out.1; omega
      obtain ⟨g, hg, -⟩ := OwnK.form hO (by rw [List.length_append, rep16_len, List.length_drop]; omega)
      subst hg
      obtain ⟨hst, hG2, hB2⟩ := hG.setK dcE_ok g1 i mk1 hlt
      rw [rep16_set mk1 dx i hdl] at hG2
      have hst := dc_store hst
      rw [show dcE.k = 33 from rfl] at hst hG2 hB2
      generalize wr.setCells g (i * 33) (dcE.enc mk1) = w2 at hst hG2 hB2
      have HR : Hid (∃ T, Ga w2 B T ∧ T k1 = some (thK dcE B (.slice (some ⟨g, 0, none⟩) nx cx) (rep16 mk1 (i + 1) ++ dx.drop (i + 1))) ∧ T k2 = some (thK dcE B (.slice y ny cy) dy) ∧ (∀ k, k ≠ k1 → k ≠ k2 → T k = T0 k) ∧ Below B W w2) := ⟨_, hG2, updT_same _ _ _, by rw [updT_ne _ _ _ _ (Ne.symm hk)]; exact g2, fun k e1 e2 => by rw [updT_ne _ _ _ _ e1]; exact gf k e1 e2, hB.trans hB2⟩
      have em : dcA ⟨dg_secZ, -1⟩ = dcA mk1 := rfl
      clear hG hO hG2 hB2 hB g1 g2 gf hdl
      go_wp2
      go_roundw
      case rel => exact ⟨i + 1, by omega, by go_num, HR.out⟩
      case measure => simp [intOf]; omega
    · obtain rfl : nx = i := by omega
      have i1 : ¬ (nx : Int) < (nx : Int) := by omega
      have HI2 : Hid (∃ T, Ga wr B T ∧ T k1 = some (thK dcE B (.slice x nx cx) (rep16 mk1 nx)) ∧ T k2 = some (thK dcE B (.slice y ny cy) dy) ∧ (∀ k, k ≠ k1 → k ≠ k2 → T k = T0 k) ∧ Below B W wr) := ⟨T, hG, by rw [g1, List.drop_of_length_le (by have := HD.out.1; omega), List.append_nil], g2, gf, hB⟩
      obtain ⟨W1, rfl⟩ : ∃ q, q = wr := ⟨_, rfl⟩
      clear hG g1 g2 gf hB hlt hi
      go_wp2
      have HI3 : Hid (∃ T, Ga W1 B T ∧ T k1 = some (thK dcE B (.slice x nx cx) (rep16 mk1 nx)) ∧ T k2 = some (thK dcE B (.slice y ny cy) (rep16 mk2 0 ++ dy.drop 0)) ∧ (∀ k, k ≠ k1 → k ≠ k2 → T k = T0 k) ∧ Below B W W1) := HI2.out
      clear HI2
      go_loopw [6] (fun iv wr => ∃ i : Nat, i ≤ ny ∧ iv = .int .i64 (i : Int) ∧ ∃ T, Ga wr B T ∧ T k1 = some (thK dcE B (.slice x nx cx) (rep16 mk1 nx)) ∧ T k2 = some (thK dcE B (.slice y ny cy) (rep16 mk2 i ++ dy.drop i)) ∧ (∀ k, k ≠ k1 → k ≠ k2 → T k = T0 k) ∧ Below B W wr) (fun iv _ => ny - (intOf iv).toNat)
      case atStart => exact ⟨0, by omega, rfl, HI3.out⟩
      case round =>
        clear HI3
        obtain ⟨i, hi, rfl, T, hG, g1, g2, gf, hB⟩ := hrel
        by_cases hlt : i < ny
        · have i0 : (0 : Int) ≤ (i : Int) := by omega
          have i1 : (i : Int) < (ny : Int) := by omega
          have hO := hG.isK g2
          have hdl : i < dy.length := by have := HD.out.2; omega
          obtain ⟨g, hg, -⟩ := OwnK.form hO (by rw [List.length_append, rep16_len, List.length_drop]; omega)
          subst hg
          obtain ⟨hst, hG2, hB2⟩ := hG.setK dcE_ok g2 i mk2 hlt
          rw [rep16_set mk2 dy i hdl] at hG2
          have hst := dc_store hst
          rw [show dcE.k = 33 from rfl] at hst hG2 hB2
          generalize wr.setCells g (i * 33) (dcE.enc mk2) = w2 at hst hG2 hB2
          have HR : Hid (∃ T, Ga w2 B T ∧ T k1 = some (thK dcE B (.slice x nx cx) (rep16 mk1 nx)) ∧ T k2 = some (thK dcE B (.slice (some ⟨g, 0, none⟩) ny cy) (rep16 mk2 (i + 1) ++ dy.drop (i + 1))) ∧ (∀ k, k ≠ k1 → k ≠ k2 → T k = T0 k) ∧ Below B W w2) := ⟨_, hG2, by rw [updT_ne _ _ _ _ hk]; exact g1, updT_same _ _ _, fun k e1 e2 => by rw [updT_ne _ _ _ _ e2]; exact gf k e1 e2, hB.trans hB2⟩
          have em : dcA ⟨dg_secZ, -2⟩ = dcA mk2 := rfl
          clear hG hO hG2 hB2 hB g1 g2 gf hdl
          go_wp2
          go_roundw
          case rel => exact ⟨i + 1, by omega, by go_num, HR.out⟩
          case measure => simp [intOf]; omega
        · obtain rfl : ny = i := by omega
          have i1 : ¬ (ny : Int) < (ny : Int) := by omega
          have HI4 : Hid (∃ T, Ga wr B T ∧ T k1 = some (thK dcE B (.slice x nx cx) (rep16 mk1 nx)) ∧ T k2 = some (thK dcE B (.slice y ny cy) (rep16 mk2 ny)) ∧ (∀ k, k ≠ k1 → k ≠ k2 → T k = T0 k) ∧ Below B W wr) := ⟨T, hG, g1, by rw [g2, List.drop_of_length_le (by have := HD.out.2; omega), List.append_nil], gf, hB⟩
          obtain ⟨W2, rfl⟩ : ∃ q, q = wr := ⟨_, rfl⟩
          clear hG g1 g2 gf hB hlt hi
          go_wp2
          have HI4o : Hid (∃ T, Ga W2 B T ∧ T k1 = some (thO dcE B x nx cx (.slice x (nx + 0) cx) (rep16 mk1 nx) (rep16 mk1 (nx + 0))) ∧ T k2 = some (thK dcE B (.slice y ny cy) (rep16 mk2 ny)) ∧ (∀ k, k ≠ k1 → k ≠ k2 → T k = T0 k) ∧ Below B W W2) := by
            obtain ⟨T, hG, g1, g2, gf, hB⟩ := HI4.out
            exact ⟨_, hG.beginO dcE_ok g1, updT_same _ _ _, by rw [updT_ne _ _ _ _ (Ne.symm hk)]; exact g2, fun k e1 e2 => by rw [updT_ne _ _ _ _ e1]; exact gf k e1 e2, hB⟩
          clear HI4
          go_loopw [7, 9] (fun pv iv wr => ∃ (i : Nat) (px : Option Addr) (pc : Nat), i ≤ 33 ∧ pv = .slice px (nx + i) pc ∧ iv = .int .i64 (i : Int) ∧ ∃ T, Ga wr B T ∧ T k1 = some (thO dcE B x nx cx (.slice px (nx + i) pc) (rep16 mk1 nx) (rep16 mk1 (nx + i))) ∧ T k2 = some (thK dcE B (.slice y ny cy) (rep16 mk2 ny)) ∧ (∀ k, k ≠ k1 → k ≠ k2 → T k = T0 k) ∧ Below B W wr) (fun _ iv _ => 33 - (intOf iv).toNat)
          case atStart => exact ⟨0, x, cx, by omega, rfl, rfl, HI4o.out⟩
          case round =>
            clear HI4o
            obtain ⟨i, px, pc, hi, rfl, rfl, T, hG, g1, g2, gf, hB⟩ := hrel
            by_cases hlt : i < 33
            · have i1 : (i : Int) < 33 := by omega
              have bA := below_alloc wr (.cells (dcA mk1) 35)
              have hrg := dc_lit_range wr mk1
              have hyl : wr.heap.size < (wr.alloc (.cells (dcA mk1) 35)).heap.size := by rw [alloc_sz15]; omega
              obtain ⟨g, c', w3, hr3, hG3, hB3⟩ := (hG.later bA).appO dcE_ok g1 mk1 22 hrg hyl (by rw [rep16_len]; show (nx + i + 1) * 40 ≤ _; omega) (by rw [rep16_len]; unfold maxLen; omega)
              rw [rep16_succ] at hG3
              rw [rep16_len] at hr3 hG3
              obtain ⟨z, hz⟩ : ∃ q, wr.heap.size = q := ⟨_, rfl⟩
              rw [hz] at hr3
              have hr3' : (Builtin.append_ #[22, 22] 22 #[.slice px (nx + i) pc, .slice (some ⟨z, 0, none⟩) 1 1]).run Tryz.prog (wr.alloc (.cells (dcA mk1) 35)) = .ok (.slice (some ⟨g, 0, none⟩) (nx + i + 1) c') w3 := hr3
              have HR : Hid (∃ T, Ga w3 B T ∧ T k1 = some (thO dcE B x nx cx (.slice (some ⟨g, 0, none⟩) (nx + (i + 1)) c') (rep16 mk1 nx) (rep16 mk1 (nx + (i + 1)))) ∧ T k2 = some (thK dcE B (.slice y ny cy) (rep16 mk2 ny)) ∧ (∀ k, k ≠ k1 → k ≠ k2 → T k = T0 k) ∧ Below B W w3) := ⟨_, hG3, updT_same _ _ _, by rw [updT_ne _ _ _ _ (Ne.symm hk)]; exact g2, fun k e1 e2 => by rw [updT_ne _ _ _ _ e1]; exact gf k e1 e2, (hB.trans (bA.mono hG.size)).trans hB3⟩
              have em : dcA ⟨dg_secZ, -1⟩ = dcA mk1 := rfl
              clear hG hG3 hB3 hB g1 g2 gf bA hrg hyl hr3
              go_wp2_with (at_builtin; refine wpL_appG 22 rfl _ _ rfl _ w3 (by exact hr3') ?_)
              go_roundw
              case rel => first | exact ⟨i + 1, some ⟨g, 0, none⟩, c', by omega, rfl, by go_num, HR.out⟩ | ((repeat apply Exists.intro); refine ⟨⟨i + 1, some ⟨g, 0, none⟩, c', by omega, rfl, ?_, HR.out⟩, rfl⟩; go_num)
              case measure => simp [intOf]; omega
            · obtain rfl : i = 33 := by omega
              have i1 : ¬ ((33 : Nat) : Int) < 33 := by omega
              obtain ⟨p1x, rfl⟩ : ∃ q, q = px := ⟨_, rfl⟩
              obtain ⟨p1c, rfl⟩ : ∃ q, q = pc := ⟨_, rfl⟩
              have HI5 : Hid (∃ T, Ga wr B T ∧ T k1 = some (thO dcE B x nx cx (.slice p1x (nx + 33) p1c) (rep16 mk1 nx) (rep16 mk1 (nx + 33))) ∧ T k2 = some (thK dcE B (.slice y ny cy) (rep16 mk2 ny)) ∧ (∀ k, k ≠ k1 → k ≠ k2 → T k = T0 k) ∧ Below B W wr) := ⟨T, hG, g1, g2, gf, hB⟩
              obtain ⟨W3, rfl⟩ : ∃ q, q = wr := ⟨_, rfl⟩
              clear hG g1 g2 gf hB hlt hi
              go_wp2
              have HI5o : Hid (∃ T, Ga W3 B T ∧ T k1 = some (thO dcE B x nx cx (.slice p1x (nx + 33) p1c) (rep16 mk1 nx) (rep16 mk1 (nx + 33))) ∧ T k2 = some (thO dcE B y ny cy (.slice y (ny + 0) cy) (rep16 mk2 ny) (rep16 mk2 (ny + 0))) ∧ (∀ k, k ≠ k1 → k ≠ k2 → T k = T0 k) ∧ Below B W W3) := by
                obtain ⟨T, hG, g1, g2, gf, hB⟩ := HI5.out
                exact ⟨_, hG.beginO dcE_ok g2, by rw [updT_ne _ _ _ _ hk]; exact g1, updT_same _ _ _, fun k e1 e2 => by rw [updT_ne _ _ _ _ e2]; exact gf k e1 e2, hB⟩
              clear HI5
              go_loopw [8, 10] (fun pv iv wr => ∃ (i : Nat) (px : Option Addr) (pc : Nat), i ≤ 33 ∧ pv = .slice px (ny + i) pc ∧ iv = .int .i64 (i : Int) ∧ ∃ T, Ga wr B T ∧ T k1 = some (thO dcE B x nx cx (.slice p1x (nx + 33) p1c) (rep16 mk1 nx) (rep16 mk1 (nx + 33))) ∧ T k2 = some (thO dcE B y ny cy (.slice px (ny + i) pc) (rep16 mk2 ny) (rep16 mk2 (ny + i))) ∧ (∀ k, k ≠ k1 → k ≠ k2 → T k = T0 k) ∧ Below B W wr) (fun _ iv _ => 33 - (intOf iv).toNat)
              case atStart => exact ⟨0, y, cy, by omega, rfl, rfl, HI5o.out⟩
              case round =>
                clear HI5o
                obtain ⟨i, px, pc, hi, rfl, rfl, T, hG, g1, g2, gf, hB⟩ := hrel
                by_cases hlt : i < 33
                · have i1 : (i : Int) < 33 := by omega
                  have bA := below_alloc wr (.cells (dcA mk2) 35)
                  have hrg := dc_lit_range wr mk2
                  have hyl : wr.heap.size < (wr.alloc (.cells (dcA mk2) 35)).heap.size := by rw [alloc_sz15]; omega
                  obtain ⟨g, c', w3, hr3, hG3, hB3⟩ := (hG.later bA).appO dcE_ok g2 mk2 22 hrg hyl (by rw [rep16_len]; show (ny + i + 1) * 40 ≤ _; omega) (by rw [rep16_len]; unfold maxLen; omega)
                  rw [rep16_succ] at hG3
                  rw [rep16_len] at hr3 hG3
                  obtain ⟨z, hz⟩ : ∃ q, wr.heap.size = q := ⟨_, rfl⟩
                  rw [hz] at hr3
                  have hr3' : (Builtin.append_ #[22, 22] 22 #[.slice px (ny + i) pc, .slice (some ⟨z, 0, none⟩) 1 1]).run Tryz.prog (wr.alloc (.cells (dcA mk2) 35)) = .ok (.slice (some ⟨g, 0, none⟩) (ny + i + 1) c') w3 := hr3
                  have HR : Hid (∃ T, Ga w3 B T ∧ T k1 = some (thO dcE B x nx cx (.slice p1x (nx + 33) p1c) (rep16 mk1 nx) (rep16 mk1 (nx + 33))) ∧ T k2 = some (thO dcE B y ny cy (.slice (some ⟨g, 0, none⟩) (ny + (i + 1)) c') (rep16 mk2 ny) (rep16 mk2 (ny + (i + 1)))) ∧ (∀ k, k ≠ k1 → k ≠ k2 → T k = T0 k) ∧ Below B W w3) := ⟨_, hG3, by rw [updT_ne _ _ _ _ hk]; exact g1, updT_same _ _ _, fun k e1 e2 => by rw [updT_ne _ _ _ _ e2]; exact gf k e1 e2, (hB.trans (bA.mono hG.size)).trans hB3⟩
                  have em : dcA ⟨dg_secZ, -2⟩ = dcA mk2 := rfl
                  clear hG hG3 hB3 hB g1 g2 gf bA hrg hyl hr3
                  go_wp2_with (at_builtin; refine wpL_appG 22 rfl _ _ rfl _ w3 (by exact hr3') ?_)
                  go_roundw
                  case rel => first | exact ⟨i + 1, some ⟨g, 0, none⟩, c', by omega, rfl, by go_num, HR.out⟩ | ((repeat apply Exists.intro); refine ⟨⟨i + 1, some ⟨g, 0, none⟩, c', by omega, rfl, ?_, HR.out⟩, rfl⟩; go_num)
                  case measure => simp [intOf]; omega
                · obtain rfl : i = 33 := by omega
                  have i1 : ¬ ((33 : Nat) : Int) < 33 := by omega
                  obtain ⟨p2x, rfl⟩ : ∃ q, q = px := ⟨_, rfl⟩
                  obtain ⟨p2c, rfl⟩ : ∃ q, q = pc := ⟨_, rfl⟩
                  have HI6 : Hid (∃ T, Ga wr B T ∧ T k1 = some (thO dcE B x nx cx (.slice p1x (nx + 33) p1c) (rep16 mk1 nx) (rep16 mk1 (nx + 33))) ∧ T k2 = some (thO dcE B y ny cy (.slice p2x (ny + 33) p2c) (rep16 mk2 ny) (rep16 mk2 (ny + 33))) ∧ (∀ k, k ≠ k1 → k ≠ k2 → T k = T0 k) ∧ Below B W wr) := ⟨T, hG, g1, g2, gf, hB⟩
                  obtain ⟨W4, rfl⟩ : ∃ q, q = wr := ⟨_, rfl⟩
                  clear hG g1 g2 gf hB hlt hi
                  go_wp2
                  go_loopw [11] (fun iv wr => ∃ i : Nat, i ≤ nx + 33 ∧ iv = .int .i64 (i : Int) ∧ ∃ T, Ga wr B T ∧ T k1 = some (thO dcE B x nx cx (.slice p1x (nx + 33) p1c) (rep16 mk1 nx) (rep16 mk1 (nx + 33))) ∧ T k2 = some (thO dcE B y ny cy (.slice p2x (ny + 33) p2c) (rep16 mk2 ny) (rep16 mk2 (ny + 33))) ∧ (∀ k, k ≠ k1 → k ≠ k2 → T k = T0 k) ∧ Below B W wr) (fun iv _ => nx + 33 - (intOf iv).toNat)
                  case atStart => exact ⟨0, by omega, rfl, HI6.out⟩
                  case round =>
                    clear HI6
                    obtain ⟨i, hi, rfl, T, hG, g1, g2, gf, hB⟩ := hrel
                    have HR : Hid (∃ T, Ga wr B T ∧ T k1 = some (thO dcE B x nx cx (.slice p1x (nx + 33) p1c) (rep16 mk1 nx) (rep16 mk1 (nx + 33))) ∧ T k2 = some (thO dcE B y ny cy (.slice p2x (ny + 33) p2c) (rep16 mk2 ny) (rep16 mk2 (ny + 33))) ∧ (∀ k, k ≠ k1 → k ≠ k2 → T k = T0 k) ∧ Below B W wr) := ⟨T, hG, g1, g2, gf, hB⟩
                    have hO := hG.isO g1
                    clear hG g1 g2 gf hB
                    by_cases hlt : i < nx + 33
                    · have i0 : (0 : Int) ≤ (i : Int) := by omega
                      have i1 : (i : Int) < ((nx + 33 : Nat) : Int) := by omega
                      obtain ⟨ga, oa, ea, -, -, -, -, -, ca⟩ := dcCells (hO.own.isK dcE_ok) i mk1 (rep16_at _ _ _ hlt)
                      subst ea
                      rw [show mk1.size = -1 from rfl] at ca
                      by_cases hlx : i < nx
                      · have i2 : (i : Int) < (nx : Int) := by omega
                        obtain ⟨gb, ob, eb, -, -, -, -, -, cb⟩ := dcCells hO.old i mk1 (rep16_at _ _ _ hlx)
                        subst eb
                        rw [show mk1.size = -1 from rfl] at cb
                        clear hO
                        go_wp2
                        go_roundw
                        case rel => exact ⟨i + 1, by omega, by go_num, HR.out⟩
                        case measure => simp [intOf]; omega
                      · have i2 : ¬ (i : Int) < (nx : Int) := by omega
                        clear hO
                        go_wp2
                        go_roundw
                        case rel => exact ⟨i + 1, by omega, by go_num, HR.out⟩
                        case measure => simp [intOf]; omega
                    · obtain rfl : i = nx + 33 := by omega
                      clear hO
                      have i1 : ¬ ((((nx + 33 : Nat)) : Int)) < ((((nx + 33 : Nat)) : Int)) := by omega
                      have HI7 : Hid (∃ T, Ga wr B T ∧ T k1 = some (thO dcE B x nx cx (.slice p1x (nx + 33) p1c) (rep16 mk1 nx) (rep16 mk1 (nx + 33))) ∧ T k2 = some (thO dcE B y ny cy (.slice p2x (ny + 33) p2c) (rep16 mk2 ny) (rep16 mk2 (ny + 33))) ∧ (∀ k, k ≠ k1 → k ≠ k2 → T k = T0 k) ∧ Below B W wr) := HR.out
                      clear HR
                      go_wp2
                      go_loopw [12] (fun iv wr => ∃ i : Nat, i ≤ ny + 33 ∧ iv = .int .i64 (i : Int) ∧ ∃ T, Ga wr B T ∧ T k1 = some (thO dcE B x nx cx (.slice p1x (nx + 33) p1c) (rep16 mk1 nx) (rep16 mk1 (nx + 33))) ∧ T k2 = some (thO dcE B y ny cy (.slice p2x (ny + 33) p2c) (rep16 mk2 ny) (rep16 mk2 (ny + 33))) ∧ (∀ k, k ≠ k1 → k ≠ k2 → T k = T0 k) ∧ Below B W wr) (fun iv _ => ny + 33 - (intOf iv).toNat)
                      case atStart => exact ⟨0, by omega, rfl, HI7.out⟩
                      case round =>
                        clear HI7
                        obtain ⟨i, hi, rfl, T, hG, g1, g2, gf, hB⟩ := hrel
                        have HR : Hid (∃ T, Ga wr B T ∧ T k1 = some (thO dcE B x nx cx (.slice p1x (nx + 33) p1c) (rep16 mk1 nx) (rep16 mk1 (nx + 33))) ∧ T k2 = some (thO dcE B y ny cy (.slice p2x (ny + 33) p2c) (rep16 mk2 ny) (rep16 mk2 (ny + 33))) ∧ (∀ k, k ≠ k1 → k ≠ k2 → T k = T0 k) ∧ Below B W wr) := ⟨T, hG, g1, g2, gf, hB⟩
                        have hO := hG.isO g2
                        clear hG g1 g2 gf hB
                        by_cases hlt : i < ny + 33
                        · have i0 : (0 : Int) ≤ (i : Int) := by omega
                          have i1 : (i : Int) < ((ny + 33 : Nat) : Int) := by omega
                          obtain ⟨ga, oa, ea, -, -, -, -, -, ca⟩ := dcCells (hO.own.isK dcE_ok) i mk2 (rep16_at _ _ _ hlt)
                          subst ea
                          rw [show mk2.size = -2 from rfl] at ca
                          by_cases hlx : i < ny
                          · have i2 : (i : Int) < (ny : Int) := by omega
                            obtain ⟨gb, ob, eb, -, -, -, -, -, cb⟩ := dcCells hO.old i mk2 (rep16_at _ _ _ hlx)
                            subst eb
                            rw [show mk2.size = -2 from rfl] at cb
                            clear hO
                            go_wp2
                            go_roundw
                            case rel => exact ⟨i + 1, by omega, by go_num, HR.out⟩
                            case measure => simp [intOf]; omega
                          · have i2 : ¬ (i : Int) < (ny : Int) := by omega
                            clear hO
                            go_wp2
                            go_roundw
                            case rel => exact ⟨i + 1, by omega, by go_num, HR.out⟩
                            case measure => simp [intOf]; omega
                        · obtain rfl : i = ny + 33 := by omega
                          clear hO
                          have i1 : ¬ ((((ny + 33 : Nat)) : Int)) < ((((ny + 33 : Nat)) : Int)) := by omega
                          have HI8 : Hid (∃ T, Ga wr B T ∧ T k1 = some (thO dcE B x nx cx (.slice p1x (nx + 33) p1c) (rep16 mk1 nx) (rep16 mk1 (nx + 33))) ∧ T k2 = some (thO dcE B y ny cy (.slice p2x (ny + 33) p2c) (rep16 mk2 ny) (rep16 mk2 (ny + 33))) ∧ (∀ k, k ≠ k1 → k ≠ k2 → T k = T0 k) ∧ Below B W wr) := HR.out
                          clear HR
                          go_wp2
                          go_ret
                          obtain ⟨T, hG, -, -, gf, hB⟩ := HI8.out
                          exact ⟨rfl, T, hG, gf, hB⟩
end Go.Proofs.YtalnbddkhojjbaaGreatDoor
namespace Go.Proofs.YtalnbddkhojjbaaGreatDoor
open Go.RowKit

theorem app_lit16 (w : World) (p : List UInt8) (q : Nat) (cs : Array Value) (hc : cs = bytesA p) (hq : p.length = q) (x : Option Addr) (L c : Nat) (l : List UInt8) (z : UInt8) (hl : l.length = L) (h : IsB w (.slice x L c) l) (hL : L ≤ 140737488351232) (hp : q ≤ 1) :
    ∃ v1 w1 v2 w2, (Builtin.append_ #[24, 24] 24 #[.slice (some ⟨w.heap.size, 0, none⟩) q q, .slice x L c]).run Tryz.prog (w.alloc (.cells cs 5)) = .ok v1 w1 ∧
      (Builtin.append_ #[24, 24] 24 #[v1, .slice (some ⟨w1.heap.size, 0, none⟩) 1 1]).run Tryz.prog (w1.alloc (.cells #[Value.int .u8 (z.toNat : Int)] 5)) = .ok v2 w2 ∧ OwnB w2 w.heap.size v2 (p ++ l ++ [z]) ∧ Below w.heap.size w w2 := by
  subst hc
  have bA := below_alloc w (.cells (bytesA p) 5)
  have hO0 : OwnB (w.alloc (.cells (bytesA p) 5)) w.heap.size (.slice (some ⟨w.heap.size, 0, none⟩) q q) p := OwnB.newB w p q hq (by unfold maxLen; omega)
  have hlA := h.kept bA
  subst hl
  obtain ⟨v1, w9, hr1, hO1, hg1, -⟩ := run_app_more _ _ _ p x c l 24 hO0 hlA (by omega) bA.size
  have hB9 : Below w.heap.size w w9 := bA.trans (below_grown hO0 hg1 bA.size)
  have bC := below_alloc w9 (.cells #[Value.int .u8 (z.toNat : Int)] 5)
  have hlit : IsB (w9.alloc (.cells #[Value.int .u8 (z.toNat : Int)] 5)) (.slice (some ⟨w9.heap.size, 0, none⟩) [z].length 1) [z] := .inr ⟨⟨w9.heap.size, 0, none⟩, 1, rfl, fun i hi => by
    have : i = 0 := by simp at hi; omega
    subst this
    rw [addr_add, cell_of_row _ _ _ _ _ _ (heap_alloc_last _ _)]; rfl⟩
  have hsz9 : w.heap.size ≤ (w9.alloc (.cells #[Value.int .u8 (z.toNat : Int)] 5)).heap.size := Nat.le_trans hB9.size bC.size
  obtain ⟨v2, wa, hr2, hO2, hg2, -⟩ := run_app_more _ _ _ (p ++ l) _ 1 [z] 24 (hO1.keep bC) hlit (by simp; omega) hsz9
  exact ⟨v1, w9, v2, wa, hr1, hr2, hO2, (hB9.trans (bC.mono hB9.size)).trans (below_grown (hO1.keep bC) hg2 hsz9)⟩
end Go.Proofs.YtalnbddkhojjbaaGreatDoor
