
import Derived.Test.YtligjfofnafjeaaFoc
namespace Go.Proofs.Ytligjfofnafjeaa
open Go.RowKit

/-! assaylaw21.apart: the walk -/
def lv8 (V U : Nat → Value) : Nat → Value := fun m => if m = 0 then V 2 else if m = 1 then V 3 else if m = 2 then V 4 else if m = 3 then V 5 else if m = 4 then U 2 else if m = 5 then U 3 else if m = 6 then U 4 else U 5
theorem sub10 (i : Nat) (hi : i < 8) : IntKind.i64.wrap (-10 - (i : Int)) = -10 - (i : Int) := by rw [IntKind.wrap_i64]; omega
theorem lv8_list (V U : Nat → Value) : (List.range 8).map (lv8 V U) = [V 2, V 3, V 4, V 5, U 2, U 3, U 4, U 5] := by
  simp [List.range_succ, lv8]
set_option linter.unusedSimpArgs false in
set_option maxRecDepth 100000 in
set_option maxHeartbeats 16000000 in
theorem apart21 (B n : Nat) (V U : Nat → Value) (oL : Nat → List Value) (P1 P2 : Nat → Nat) (k1 k2 : List Value) (T0 : Nat → Option Th) (w : World) (hG : Ga w B T0)
    (h0 : ∀ m, m < 8 → T0 m = some (thG 3 B (lv8 V U m) (oL m))) (h8 : T0 8 = some (thG 33 B (V 1) (uF P1 n))) (h9 : T0 9 = some (thG 33 B (U 1) (uF P2 n)))
    (h10 : T0 10 = some (thG 4 B (V 0) k1)) (h11 : T0 11 = some (thG 4 B (U 0) k2)) (hn : n ≤ 3298534883328) (hoL : ∀ m, (oL m).length ≤ 3298534883328) (hk1 : k1.length = n) (hk2 : k2.length = n) :
    Calls Try.prog 15 #[.agg (foA V), .agg (foA U)] w fun e w' => e = .returned (.bool true) ∧ Below B w w' := by
  have bA := below_alloc w (.cells (foA V) 28)
  have bB := below_alloc (w.alloc (.cells (foA V) 28)) (.cells (foA U) 28)
  have hR2 : RowC ((w.alloc (.cells (foA V) 28)).alloc (.cells (foA U) 28)) w.heap.size (foA V) := (RowC.new w (foA V) _).kept bB
  have hR3 : RowC ((w.alloc (.cells (foA V) 28)).alloc (.cells (foA U) 28)) (w.heap.size + 1) (foA U) := by
    have := RowC.new (w.alloc (.cells (foA V) 28)) (foA U) 28
    rw [World.size_alloc] at this
    exact this
  have hG1 := (hG.newRow 14 bA (RowC.new w (foA V) _) (Nat.le_refl _)).newRow 15 bB (g := w.heap.size + 1) hR3 (by rw [World.size_alloc]; exact Nat.le_refl _)
  have hBX : Below B w ((w.alloc (.cells (foA V) 28)).alloc (.cells (foA U) 28)) := (bA.mono hG.size).trans (bB.mono (Nat.le_trans hG.size bA.size))
  obtain ⟨y0, d0, f0⟩ := own_slice (hG.isG (h0 0 (by omega)))
  replace f0 : V 2 = .slice y0 (oL 0).length d0 := f0
  obtain ⟨y1, d1, f1⟩ := own_slice (hG.isG (h0 1 (by omega)))
  replace f1 : V 3 = .slice y1 (oL 1).length d1 := f1
  obtain ⟨y2, d2, f2⟩ := own_slice (hG.isG (h0 2 (by omega)))
  replace f2 : V 4 = .slice y2 (oL 2).length d2 := f2
  obtain ⟨y3, d3, f3⟩ := own_slice (hG.isG (h0 3 (by omega)))
  replace f3 : V 5 = .slice y3 (oL 3).length d3 := f3
  obtain ⟨y4, d4, f4⟩ := own_slice (hG.isG (h0 4 (by omega)))
  replace f4 : U 2 = .slice y4 (oL 4).length d4 := f4
  obtain ⟨y5, d5, f5⟩ := own_slice (hG.isG (h0 5 (by omega)))
  replace f5 : U 3 = .slice y5 (oL 5).length d5 := f5
  obtain ⟨y6, d6, f6⟩ := own_slice (hG.isG (h0 6 (by omega)))
  replace f6 : U 4 = .slice y6 (oL 6).length d6 := f6
  obtain ⟨y7, d7, f7⟩ := own_slice (hG.isG (h0 7 (by omega)))
  replace f7 : U 5 = .slice y7 (oL 7).length d7 := f7
  go_enter Try.func15, Try.ntmps15
  go_upto_region 1 with fail
  obtain ⟨g3, hg3⟩ : ∃ g, w.heap.size + 1 = g := ⟨_, rfl⟩
  obtain ⟨g2, hg2⟩ : ∃ g, w.heap.size = g := ⟨_, rfl⟩
  rw [hg3] at hR3 hG1
  rw [hg2] at hR2 hG1
  simp only [hg3]
  simp only [hg2]
  generalize ((w.alloc (.cells (foA V) 28)).alloc (.cells (foA U) 28)) = X at hG1 hR2 hR3 hBX ⊢
  clear hg2 hg3 bA bB
  have z0 := hR2.cell 2
  rw [foA_get V 2 (by omega), f0] at z0
  have z1 := hR2.cell 3
  rw [foA_get V 3 (by omega), f1] at z1
  have z2 := hR2.cell 4
  rw [foA_get V 4 (by omega), f2] at z2
  have z3 := hR2.cell 5
  rw [foA_get V 5 (by omega), f3] at z3
  have z4 := hR3.cell 2
  rw [foA_get U 2 (by omega), f4] at z4
  have z5 := hR3.cell 3
  rw [foA_get U 3 (by omega), f5] at z5
  have z6 := hR3.cell 4
  rw [foA_get U 4 (by omega), f6] at z6
  have z7 := hR3.cell 5
  rw [foA_get U 5 (by omega), f7] at z7
  have bL := below_alloc X (.cells #[.slice y0 (oL 0).length d0, .slice y1 (oL 1).length d1, .slice y2 (oL 2).length d2, .slice y3 (oL 3).length d3, .slice y4 (oL 4).length d4, .slice y5 (oL 5).length d5, .slice y6 (oL 6).length d6, .slice y7 (oL 7).length d7] 26)
  have hOL : OwnG 26 (X.alloc (.cells #[.slice y0 (oL 0).length d0, .slice y1 (oL 1).length d1, .slice y2 (oL 2).length d2, .slice y3 (oL 3).length d3, .slice y4 (oL 4).length d4, .slice y5 (oL 5).length d5, .slice y6 (oL 6).length d6, .slice y7 (oL 7).length d7] 26)) X.heap.size (.slice (some ⟨X.heap.size, 0, none⟩) 8 8) ((List.range 8).map (lv8 V U)) := by
    rw [lv8_list, f0, f1, f2, f3, f4, f5, f6, f7]
    exact OwnG.lit 26 X [.slice y0 (oL 0).length d0, .slice y1 (oL 1).length d1, .slice y2 (oL 2).length d2, .slice y3 (oL 3).length d3, .slice y4 (oL 4).length d4, .slice y5 (oL 5).length d5, .slice y6 (oL 6).length d6, .slice y7 (oL 7).length d7] (by show 8 ≤ maxLen; decide)
  have hG2 := hG1.newG 12 bL hOL (hOL.le hG1.size)
  have hBY : Below B w (X.alloc (.cells #[.slice y0 (oL 0).length d0, .slice y1 (oL 1).length d1, .slice y2 (oL 2).length d2, .slice y3 (oL 3).length d3, .slice y4 (oL 4).length d4, .slice y5 (oL 5).length d5, .slice y6 (oL 6).length d6, .slice y7 (oL 7).length d7] 26)) := hBX.trans (bL.mono hG1.size)
  go_upto_region 2 with fail
  obtain ⟨gl, hgl⟩ : ∃ g, X.heap.size = g := ⟨_, rfl⟩
  rw [hgl] at hG2
  simp only [hgl]
  generalize X.alloc (.cells #[.slice y0 (oL 0).length d0, .slice y1 (oL 1).length d1, .slice y2 (oL 2).length d2, .slice y3 (oL 3).length d3, .slice y4 (oL 4).length d4, .slice y5 (oL 5).length d5, .slice y6 (oL 6).length d6, .slice y7 (oL 7).length d7] 26) = Y at hG2 hBY ⊢
  clear hgl hOL bL hG1 hR2 hR3 hBX z0 z1 z2 z3 z4 z5 z6 z7
  obtain ⟨R, hRd⟩ : ∃ R, R = updT (updT (updT T0 14 (thRow g2 (foA V))) 15 (thRow g3 (foA U))) 12 (thG 26 B (.slice (some ⟨gl, 0, none⟩) 8 8) ((List.range 8).map (lv8 V U))) := ⟨_, rfl⟩
  have R8 : R 8 = some (thG 33 B (V 1) (uF P1 n)) := by rw [hRd, updT_ne _ _ _ _ (by omega), updT_ne _ _ _ _ (by omega), updT_ne _ _ _ _ (by omega)]; exact h8
  have R9 : R 9 = some (thG 33 B (U 1) (uF P2 n)) := by rw [hRd, updT_ne _ _ _ _ (by omega), updT_ne _ _ _ _ (by omega), updT_ne _ _ _ _ (by omega)]; exact h9
  have R10 : R 10 = some (thG 4 B (V 0) k1) := by rw [hRd, updT_ne _ _ _ _ (by omega), updT_ne _ _ _ _ (by omega), updT_ne _ _ _ _ (by omega)]; exact h10
  have R11 : R 11 = some (thG 4 B (U 0) k2) := by rw [hRd, updT_ne _ _ _ _ (by omega), updT_ne _ _ _ _ (by omega), updT_ne _ _ _ _ (by omega)]; exact h11
  have R12 : R 12 = some (thG 26 B (.slice (some ⟨gl, 0, none⟩) 8 8) ((List.range 8).map (lv8 V U))) := by rw [hRd, updT_same]
  have R14 : R 14 = some (thRow g2 (foA V)) := by rw [hRd, updT_ne _ _ _ _ (by omega), updT_ne _ _ _ _ (by omega), updT_same]
  have R15 : R 15 = some (thRow g3 (foA U)) := by rw [hRd, updT_ne _ _ _ _ (by omega), updT_same]
  have hA : A1 B w Y (lv8 V U) (cI oL 0 0) R := ⟨⟨R, by rw [hRd]; exact hG2, fun m hm => by rw [hRd, updT_ne _ _ _ _ (by omega), updT_ne _ _ _ _ (by omega), updT_ne _ _ _ _ (by omega), h0 m hm, cI_start], fun k _ => rfl⟩, hBY⟩
  have HR : Hid ((R 8 = some (thG 33 B (V 1) (uF P1 n)) ∧ R 9 = some (thG 33 B (U 1) (uF P2 n))) ∧ (R 10 = some (thG 4 B (V 0) k1) ∧ R 11 = some (thG 4 B (U 0) k2)) ∧ R 12 = some (thG 26 B (.slice (some ⟨gl, 0, none⟩) 8 8) ((List.range 8).map (lv8 V U))) ∧ R 14 = some (thRow g2 (foA V)) ∧ R 15 = some (thRow g3 (foA U))) := ⟨⟨R8, R9⟩, ⟨R10, R11⟩, R12, R14, R15⟩
  have HK : Hid (k1.length = n ∧ k2.length = n) := ⟨hk1, hk2⟩
  clear R8 R9 R10 R11 R12 R14 R15 hRd hG2 hBY h0 h8 h9 h10 h11 hG hk1 hk2 f0 f1 f2 f3 f4 f5 f6 f7 T0
  generalize lv8 V U = lv at hA HR
  go_wp2_with fail
  go_loopw [6] (fun iv wr => ∃ i : Nat, i ≤ 8 ∧ iv = .int .i64 i ∧ A1 B w wr lv (cI oL i 0) R) (fun iv _ => 8 - (intOf iv).toNat)
  case atStart => exact ⟨0, by omega, rfl, hA⟩
  case round =>
    clear hA
    obtain ⟨i, hi, rfl, hA⟩ := hrel
    by_cases hlt : i < 8
    · have i0 : (i : Int) < 8 := by omega
      have i1 : (0 : Int) ≤ (i : Int) := by omega
      have HI : Hid (i < 8) := hlt
      have q10 := sub10 i hlt
      obtain ⟨wo, hwo⟩ : ∃ wo, wo = wr := ⟨_, rfl⟩
      rw [← hwo] at hA ⊢
      clear hwo hi
      go_wp2_with fail
      go_loopw [7] (fun jv wr => ∃ j : Nat, j ≤ (oL i).length ∧ jv = .int .i64 j ∧ A1 B w wr lv (cI oL i j) R) (fun jv _ => (oL i).length - (intOf jv).toNat)
      case atStart => exact ⟨0, by omega, rfl, hA⟩
      case round =>
        clear hA
        obtain ⟨j, hj, rfl, hA⟩ := hrel
        have hlen := cI_len oL i j i hj
        have lc := (hA.rest (by omega) HR.out.2.2.1).cell i (lv i) (by simp [hlt])
        have hO := hA.own i hlt
        obtain ⟨xi, ci, ei⟩ := own_slice hO
        rw [hlen] at ei
        rw [ei] at lc
        have hNi := hoL i
        obtain ⟨Ni, hNe⟩ : ∃ q, (oL i).length = q := ⟨_, rfl⟩
        rw [hNe] at hj hlen ei lc hNi ⊢
        by_cases hjl : j < Ni
        · obtain ⟨g, c, u, e1, c1, f1, hA2⟩ := hA.mark i j hlt (mkI i) (by rw [hlen]; exact hjl) (C' := cI oL i (j + 1)) (cI_set oL i j (by rw [hNe]; exact hjl)) (fun m hm => cI_ne oL i j (j + 1) m hm)
          rw [hlen, ei] at e1
          cases e1
          have HA : Hid _ := hA2
          have j0 : (j : Int) < (Ni : Int) := by omega
          have j1 : (0 : Int) ≤ (j : Int) := by omega
          have HJ : Hid (j < Ni) := hjl
          have em : mkI i = .int .i64 (-10 - (i : Int)) := rfl
          rw [em] at HA
          clear hA hA2 hO hlen hNe hjl hj em ei
          go_wp2
          go_roundw
          case rel => first | exact ⟨j + 1, by have := HJ.out; omega, by go_num, HA.out⟩ | ((repeat apply Exists.intro); refine ⟨⟨j + 1, by have := HJ.out; omega, ?_, HA.out⟩, rfl⟩; go_num)
          case measure => have := HJ.out; simp [intOf]; omega
        · obtain rfl : Ni = j := by omega
          have j0 : ¬ (Ni : Int) < (Ni : Int) := by omega
          have HA : Hid (A1 B w wr lv (cI oL (i + 1) 0) R) := by
            have e9 : cI oL i Ni = cI oL (i + 1) 0 := by funext m; rw [← hNe]; exact cI_next oL i m
            show A1 _ _ _ _ _ _
            rw [← e9]; exact hA
          clear hA hO hlen hNe hjl hj ei
          go_wp2
          go_roundw
          case rel => first | exact ⟨i + 1, by have := HI.out; omega, by go_num, HA.out⟩ | ((repeat apply Exists.intro); refine ⟨⟨i + 1, by have := HI.out; omega, ?_, HA.out⟩, rfl⟩; go_num)
          case measure => have := HI.out; simp [intOf]; omega
    · obtain rfl : i = 8 := by omega
      have i0 : ¬ ((8 : Nat) : Int) < 8 := by omega
      obtain ⟨N, hN⟩ : ∃ N : Nat → Nat, N = fun m => (oL m).length := ⟨_, rfl⟩
      have hNb : ∀ m, N m ≤ 3298534883328 := fun m => by rw [hN]; exact hoL m
      have hA2 : A2 B w wr 0 lv (fun _ => nilV) N (.slice none 0 0) R := by
        obtain ⟨T, t1, t2, t3⟩ := hA.game
        refine ⟨⟨updT T 13 (thG 26 B (.slice none 0 0) []), t1.newG 13 (Below.refl _ _) (OwnG.nil _ _ _) (OwnG.nil _ _ _), fun m hm => by omega, fun m _ hm => ?_, fun k hk hk13 => by rw [updT_ne _ _ _ _ hk13]; exact t3 k hk, updT_same _ _ _⟩, hA.be⟩
        rw [updT_ne _ _ _ _ (by omega), t2 m hm, cI_done oL 8 0 m hm, hN]
      obtain ⟨wo, hwo⟩ : ∃ wo, wo = wr := ⟨_, rfl⟩
      rw [← hwo] at hA2 ⊢
      clear hwo hi hlt hA hN hoL
      go_wp2_with fail
      clear i0
      go_loopw [8, 9] (fun qv iv wr => ∃ (i : Nat) (pv : Nat → Value), i ≤ 8 ∧ iv = .int .i64 i ∧ A2 B w wr i lv pv N qv R) (fun _ iv _ => 8 - (intOf iv).toNat)
      case atStart => exact ⟨0, _, by omega, rfl, hA2⟩
      case round =>
        clear hA2
        obtain ⟨i, pv, hi, rfl, hA⟩ := hrel
        by_cases hlt : i < 8
        · have i0 : (i : Int) < 8 := by omega
          have i1 : (0 : Int) ≤ (i : Int) := by omega
          have HI : Hid (i < 8) := hlt
          have q10 := sub10 i hlt
          have lc := (hA.rest (by omega) (by omega) HR.out.2.2.1).cell i (lv i) (by simp [hlt])
          obtain ⟨xi, ci, ei⟩ := own_slice (hA.own i (Nat.le_refl _) hlt)
          rw [rep_len] at ei
          rw [ei] at lc
          obtain ⟨g1, c1, W1, r1, ga, ca, W2, r2, gb, cb, W3, r3, hA3⟩ := hA.round hlt hNb
          rw [ei] at r1
          simp only [mkI] at r1 r2
          have HA : Hid _ := hA3
          generalize N i + 1 = n1 at r1 r2
          generalize N i + 2 = n2 at r2 r3 HA
          clear hA hA3 hlt hi ei
          go_upto_region 14 with (at_builtin; refine wpL_appG 26 rfl _ _ rfl _ W1 (by exact r1) ?_)
          clear r1 lc
          go_wp2_with (at_builtin; first | (refine wpL_appG 26 rfl _ _ rfl _ W2 (by exact r2) ?_; clear r2) | (refine wpL_appG 59 rfl _ _ rfl _ W3 (by exact r3) ?_; clear r3))
          go_roundw
          case rel => first | exact ⟨i + 1, _, by have := HI.out; omega, by go_num, HA.out⟩ | ((repeat apply Exists.intro); refine ⟨⟨i + 1, _, by have := HI.out; omega, ?_, HA.out⟩, rfl⟩; go_num)
          case measure => have := HI.out; simp [intOf]; omega
        · obtain rfl : i = 8 := by omega
          have i0 : ¬ ((8 : Nat) : Int) < 8 := by omega
          have hlo := hA.longer
          obtain ⟨gq, cq, eq9, -⟩ := hlo.form (by simp)
          rw [show ((List.range 8).map pv).length = 8 by simp] at eq9
          subst eq9
          obtain ⟨W3, hW3⟩ : ∃ wo, wo = wr := ⟨_, rfl⟩
          rw [← hW3] at hA hlo ⊢
          clear hW3 hi hlt
          go_wp2_with fail
          clear i0
          go_loopw [11] (fun iv wr => ∃ i : Nat, i ≤ 8 ∧ iv = .int .i64 i ∧ wr = W3) (fun iv _ => 8 - (intOf iv).toNat)
          case atStart => exact ⟨0, by omega, rfl, rfl⟩
          case round =>
            obtain ⟨i, hi, rfl, hw3⟩ := hrel
            subst hw3
            by_cases hlt : i < 8
            · have i0 : (i : Int) < 8 := by omega
              have i1 : (0 : Int) ≤ (i : Int) := by omega
              have HI : Hid (i < 8) := hlt
              have q10 := sub10 i hlt
              have lc := (hA.rest (by omega) (by omega) HR.out.2.2.1).cell i (lv i) (by simp [hlt])
              have qc := hlo.cell i (pv i) (by simp [hlt])
              obtain ⟨hp, hold⟩ := hA.both i hlt
              obtain ⟨xi, ci, ei⟩ := hold.len
              rw [rep_len] at ei
              rw [ei] at lc hold
              obtain ⟨gp, cp, ep, -⟩ := hp.form (fun e => by have := rep_len i (N i + 2); rw [e] at this; simp at this)
              rw [rep_len] at ep
              rw [ep] at qc hp
              have hNi := hNb i
              obtain ⟨Ni, hNe⟩ : ∃ q, N i = q := ⟨_, rfl⟩
              rw [hNe] at lc qc hold hp hNi
              clear ei ep hNe hi hlt
              go_wp2_with fail
              go_loopw [12] (fun jv w9 => ∃ j : Nat, j ≤ Ni + 2 ∧ jv = .int .i64 j ∧ w9 = wr) (fun jv _ => Ni + 2 - (intOf jv).toNat)
              case atStart => exact ⟨0, by omega, rfl, rfl⟩
              case round =>
                obtain ⟨j, hj, rfl, hw9⟩ := hrel
                subst hw9
                by_cases hjl : j < Ni + 2
                · have j0 : (j : Int) < (Ni : Int) + 2 := by omega
                  have j1 : (0 : Int) ≤ (j : Int) := by omega
                  have j2 : (j : Int) < ((Ni + 2 : Nat) : Int) := by omega
                  have HJ : Hid (j < Ni + 2) := hjl
                  have pc := hp.cell j _ (rep_get i (Ni + 2) j hjl)
                  simp only [mkI] at pc
                  by_cases hjn : j < Ni
                  · have j3 : (j : Int) < (Ni : Int) := by omega
                    obtain ⟨go, oo, eo, -, oc9⟩ := hold.spot j (by rw [rep_len]; exact hjn)
                    subst eo
                    have oc := oc9 j _ (rep_get i Ni j hjn)
                    simp only [mkI] at oc
                    clear oc9 hjn hjl hj
                    go_wp2
                    go_roundw
                    case rel => first | exact ⟨j + 1, by have := HJ.out; omega, by go_num, rfl⟩ | exact ⟨j + 1, by have := HJ.out; omega, by go_num, trivial⟩ | ((repeat apply Exists.intro); refine ⟨⟨j + 1, by have := HJ.out; omega, ?_, rfl⟩, rfl⟩; go_num)
                    case measure => have := HJ.out; simp [intOf]; omega
                  · have j3 : ¬ (j : Int) < (Ni : Int) := by omega
                    clear hjn hjl hj
                    go_wp2
                    go_roundw
                    case rel => first | exact ⟨j + 1, by have := HJ.out; omega, by go_num, rfl⟩ | exact ⟨j + 1, by have := HJ.out; omega, by go_num, trivial⟩ | ((repeat apply Exists.intro); refine ⟨⟨j + 1, by have := HJ.out; omega, ?_, rfl⟩, rfl⟩; go_num)
                    case measure => have := HJ.out; simp [intOf]; omega
                · obtain rfl : j = Ni + 2 := by omega
                  have j0 : ¬ ((Ni + 2 : Nat) : Int) < ((Ni + 2 : Nat) : Int) := by omega
                  have j0' : ¬ ((Ni : Int) + 2) < ((Ni : Int) + 2) := by omega
                  clear hjl hj
                  go_wp2
                  go_roundw
                  case rel => first | exact ⟨i + 1, by have := HI.out; omega, by go_num, rfl⟩ | exact ⟨i + 1, by have := HI.out; omega, by go_num, trivial⟩ | ((repeat apply Exists.intro); refine ⟨⟨i + 1, by have := HI.out; omega, ?_, rfl⟩, rfl⟩; go_num)
                  case measure => have := HI.out; simp [intOf]; omega
            · obtain rfl : i = 8 := by omega
              have i0 : ¬ ((8 : Nat) : Int) < 8 := by omega
              have hA4 : A4 B n w wr V U g2 g3 k1 k2 P1 P2 := by
                obtain ⟨T, t1, -, -, t4, -⟩ := hA.game
                refine ⟨⟨T, t1, ?_, ?_, ?_, ?_, ?_, ?_⟩, hA.be⟩
                · rw [t4 8 (by omega) (by omega)]; exact HR.out.1.1
                · rw [t4 9 (by omega) (by omega)]; exact HR.out.1.2
                · rw [t4 10 (by omega) (by omega)]; exact HR.out.2.1.1
                · rw [t4 11 (by omega) (by omega)]; exact HR.out.2.1.2
                · rw [t4 14 (by omega) (by omega)]; exact HR.out.2.2.2.1
                · rw [t4 15 (by omega) (by omega)]; exact HR.out.2.2.2.2
              obtain ⟨wo, hwo⟩ : ∃ wo, wo = wr := ⟨_, rfl⟩
              rw [← hwo] at hA4 ⊢
              clear hwo hA hlo hi hlt HR hNb
              go_wp2_with fail
              clear i0
              go_loopw [13] (fun iv wr => ∃ i : Nat, i ≤ n ∧ iv = .int .i64 i ∧ A4 B n w wr V U g2 g3 k1 k2 (fun k => if k < i then 71 else P1 k) (fun k => if k < i then 72 else P2 k)) (fun iv _ => n - (intOf iv).toNat)
              case atStart => exact ⟨0, by omega, rfl, by simpa using hA4⟩
              case round =>
                clear hA4
                obtain ⟨i, hi, rfl, hA⟩ := hrel
                obtain ⟨s2, s3⟩ := hA.row2
                obtain ⟨o8, o9⟩ := hA.own
                obtain ⟨x8, c8, e8⟩ := own_slice o8
                obtain ⟨x9, c9, e9⟩ := own_slice o9
                rw [uF_len] at e8 e9
                have r21 := s2.cell 1
                rw [foA_get V 1 (by omega), e8] at r21
                by_cases hlt : i < n
                · have i0 : (i : Int) < (n : Int) := by omega
                  have i1 : (0 : Int) ≤ (i : Int) := by omega
                  have HI : Hid (i < n) := hlt
                  obtain ⟨ga, ca, u1, e81, ua, fa, hB1⟩ := hA.set8 i 71 hlt
                  rw [e8] at e81
                  cases e81
                  have s31 := hB1.row2.2.cell 1
                  rw [foA_get U 1 (by omega), e9] at s31
                  obtain ⟨gb, cb, u2, e91, ub, fb, hB2⟩ := hB1.set9 i 72 hlt
                  rw [e9] at e91
                  cases e91
                  have HB2 : Hid (A4 B n w ((wr.setCell ⟨ga, i, none⟩ (.int .u32 71)).setCell ⟨gb, i, none⟩ (.int .u32 72)) V U g2 g3 k1 k2 (fun k => if k < i + 1 then 71 else P1 k) (fun k => if k < i + 1 then 72 else P2 k)) := by
                    have z1 : (fun j => if j = i then 71 else (fun k => if k < i then 71 else P1 k) j) = fun k => if k < i + 1 then 71 else P1 k := by
                      funext k
                      by_cases e : k = i
                      · rw [if_pos e, if_pos (by omega)]
                      · rw [if_neg e]
                        show (if k < i then 71 else P1 k) = _
                        by_cases h2 : k < i
                        · rw [if_pos h2, if_pos (by omega)]
                        · rw [if_neg h2, if_neg (by omega)]
                    have z2 : (fun j => if j = i then 72 else (fun k => if k < i then 72 else P2 k) j) = fun k => if k < i + 1 then 72 else P2 k := by
                      funext k
                      by_cases e : k = i
                      · rw [if_pos e, if_pos (by omega)]
                      · rw [if_neg e]
                        show (if k < i then 72 else P2 k) = _
                        by_cases h2 : k < i
                        · rw [if_pos h2, if_pos (by omega)]
                        · rw [if_neg h2, if_neg (by omega)]
                    rw [← z1, ← z2]; exact hB2
                  have s31' : (wr.setCell ⟨ga, i, none⟩ (.int .u32 71)).cell? ⟨g3, 1, none⟩ = some (.slice (some ⟨gb, 0, none⟩) n c9) := s31
                  have ub' : (wr.setCell ⟨ga, i, none⟩ (.int .u32 71)).cell? ⟨gb, i, none⟩ = some u2 := ub
                  have fb' : (wr.setCell ⟨ga, i, none⟩ (.int .u32 71)).frozen? ⟨gb, i, none⟩ = false := fb
                  clear hA hB1 hB2 o8 o9 e8 e9 s2 s3 s31 ub fb hlt hi
                  go_upto_region 27 with fail
                  generalize wr.setCell ⟨ga, i, none⟩ (.int .u32 71) = Z1 at s31' ub' fb' HB2 ⊢
                  clear r21 ua fa
                  go_wp2
                  go_roundw
                  case rel => first | exact ⟨i + 1, by have := HI.out; omega, by go_num, HB2.out⟩ | ((repeat apply Exists.intro); refine ⟨⟨i + 1, by have := HI.out; omega, ?_, HB2.out⟩, rfl⟩; go_num)
                  case measure => have := HI.out; simp [intOf]; omega
                · obtain rfl : n = i := by omega
                  have i0 : ¬ (n : Int) < (n : Int) := by omega
                  clear hlt hi
                  have zp : uF (fun k => if k < n then 71 else P1 k) n = uF (fun _ => 71) n := uF_congr fun k hk => if_pos hk
                  have zq : uF (fun k => if k < n then 72 else P2 k) n = uF (fun _ => 72) n := uF_congr fun k hk => if_pos hk
                  obtain ⟨ga, ca, W1, r1, gb, cb, W2, r2, ⟨v8, v9, p8, p9, t31, t22, t32⟩, gc, cc, W4, r3, t33, gd, cd, W5, r4, cA, cB, cC, cD, bE⟩ := hA.four (by omega) HK.out.1 HK.out.2
                  rw [zp] at v8 p8
                  rw [zq] at v9 p9
                  have hE : Hid _ := bE
                  rw [e8] at r1 v8
                  rw [e9] at r2 v9
                  have r31a := t31.cell 1
                  rw [foA_get U 1 (by omega), e9] at r31a
                  have r31 : (W1.cell? ⟨g3, 1, none⟩) = some (.slice x9 n c9) := r31a
                  have r22 := t22.cell 1
                  rw [foA_get V 1 (by omega), e8] at r22
                  have r32 := t32.cell 1
                  rw [foA_get U 1 (by omega), e9] at r32
                  obtain ⟨T9, -, -, -, w4, w5, -⟩ := hA.game
                  have r20 := t22.cell 0
                  rw [foA_get V 0 (by omega)] at r20
                  have r30 := t33.cell 0
                  rw [foA_get U 0 (by omega)] at r30
                  obtain ⟨xk, ck, fk⟩ := own_slice (show OwnG 4 wr B (V 0) k1 from by obtain ⟨T, y1, -, -, y4, -⟩ := hA.game; exact y1.isG y4)
                  obtain ⟨xm, cm, fm⟩ := own_slice (show OwnG 4 wr B (U 0) k2 from by obtain ⟨T, y1, -, -, -, y5, -⟩ := hA.game; exact y1.isG y5)
                  rw [HK.out.1] at fk
                  rw [HK.out.2] at fm
                  rw [fk] at r20 r3
                  rw [fm] at r30 r4
                  clear o8 o9 s2 s3 hA e8 e9 t31 t22 t32 t33 bE w4 w5 fk fm zp zq r31a
                  go_upto_region 29 with (at_builtin; refine wpL_appG 25 rfl _ _ rfl _ W1 (by exact r1) ?_)
                  clear r1 r21
                  go_upto_region 30 with (at_builtin; refine wpL_appG 25 rfl _ _ rfl _ W2 (by exact r2) ?_)
                  clear r2 r31
                  go_wp2_with fail
                  go_loopw [16] (fun iv w9 => ∃ i : Nat, i ≤ n ∧ iv = .int .i64 i ∧ w9 = W2) (fun iv _ => n - (intOf iv).toNat)
                  case atStart => exact ⟨0, by omega, rfl, rfl⟩
                  case round =>
                    obtain ⟨i, hi, rfl, hw9⟩ := hrel
                    subst hw9
                    by_cases hlt : i < n
                    · have i0 : (i : Int) < (n : Int) := by omega
                      have i1 : (0 : Int) ≤ (i : Int) := by omega
                      have i2 : (i : Int) < (n : Int) + 1 := by omega
                      have i3 : (i : Int) < ((n + 1 : Nat) : Int) := by omega
                      have HI : Hid (i < n) := hlt
                      obtain ⟨ge, oe, ee, -, ce9⟩ := v8.spot i (by rw [uF_len]; exact hlt)
                      obtain ⟨gf, of, ef, -, cf9⟩ := v9.spot i (by rw [uF_len]; exact hlt)
                      subst ee
                      subst ef
                      have ce := ce9 i _ (uF_get _ n i hlt)
                      have cf := cf9 i _ (uF_get _ n i hlt)
                      have cg := p8.cell i _ (by rw [List.getElem?_append_left (by rw [uF_len]; exact hlt)]; exact uF_get _ n i hlt)
                      have ch := p9.cell i _ (by rw [List.getElem?_append_left (by rw [uF_len]; exact hlt)]; exact uF_get _ n i hlt)
                      replace ce : wr.cell? ⟨ge, oe + i, none⟩ = some (.int .u32 71) := ce
                      replace cf : wr.cell? ⟨gf, of + i, none⟩ = some (.int .u32 72) := cf
                      replace cg : wr.cell? ⟨ga, i, none⟩ = some (.int .u32 71) := cg
                      replace ch : wr.cell? ⟨gb, i, none⟩ = some (.int .u32 72) := ch
                      clear ce9 cf9 hlt hi
                      go_wp2
                      go_roundw
                      case rel => first | exact ⟨i + 1, by have := HI.out; omega, by go_num, rfl⟩ | exact ⟨i + 1, by have := HI.out; omega, by go_num, trivial⟩ | ((repeat apply Exists.intro); refine ⟨⟨i + 1, by have := HI.out; omega, ?_, rfl⟩, rfl⟩; go_num)
                      case measure => have := HI.out; simp [intOf]; omega
                    · obtain rfl : n = i := by omega
                      have i0 : ¬ (n : Int) < (n : Int) := by omega
                      have n1 : (0 : Int) ≤ (n : Int) := by omega
                      have n2 : (n : Int) < (n : Int) + 1 := by omega
                      clear hlt hi v8 v9 p8 p9
                      go_upto_region 36 with (at_builtin; refine wpL_appG 24 rfl _ _ rfl _ W4 (by exact r3) ?_)
                      clear r3 r20 r22 r32
                      go_upto_region 37 with (at_builtin; refine wpL_appG 24 rfl _ _ rfl _ W5 (by exact r4) ?_)
                      clear r4 r30
                      go_wp2
                      go_ret
                      exact ⟨rfl, hE.out⟩
end Go.Proofs.Ytligjfofnafjeaa
