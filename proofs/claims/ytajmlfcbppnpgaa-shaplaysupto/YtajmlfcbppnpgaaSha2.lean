
import Derived.Test.YtajmlfcbppnpgaaSha1
namespace Go.Proofs.Ytajmlfcbppnpgaa
open Go.RowKit

@[go_sem] theorem lt_add2 (n : Nat) : (n < n + 1 + 1) = True := by simp; omega
@[go_sem] theorem lt_add3 (n : Nat) : (n < n + 1 + 1 + 1) = True := by simp; omega
@[go_sem] theorem lt_add4 (n : Nat) : (n < n + 1 + 1 + 1 + 1) = True := by simp; omega
def bigIndex (t : TypeId) (x i : Value) : Sem Next := do pure (.value (← Instr.index t x i))
@[go_sem ↓] theorem execOp_index_w8 (ρ : Operand → Value) (dst : Option Tmp) (ty : TypeId) (pos : String) (after : Array Edge) (guard : Option (Nat × Bool)) (x i : Operand) : execOp ρ { dst, op := .index 44 x i, type := ty, pos, after, guard } = bigIndex 44 (ρ x) (ρ i) := rfl
@[go_sem] theorem run_index_w8 (w : World) (l : List Wd) (k : Nat) (hl : l.length = 8) (hk : (k : Int) < 8) : (bigIndex 44 (.agg (wdA l)) (.int .i64 (k : Int))).run Try.prog w = .ok (.value (.int .u32 ((wAt l k).toNat : Nat))) w := by
  have h := wdA_get l k (by omega)
  have e1 : ∀ w, (sizeOf 42).run Try.prog w = .ok 1 w := fun w => by kernel_rfl
  have e2 : ∀ w, (isAgg 42).run Try.prog w = .ok false w := fun w => by kernel_rfl
  have hk8 : k < 8 := by omega
  simp [bigIndex, Instr.index, run_underlying Try.underlying44, e1, e2, part, asIntOf, h]
  exact fun h => by omega
theorem digB (S : S8) (k r : Nat) (hr : r < 4) : digL S (4 * k + r) = UInt8.ofNat ((wAt S.toL k).toNat / 2 ^ (24 - 8 * r)) := by
  unfold digL
  rw [show (4 * k + r) / 4 = k by omega, show (4 * k + r) % 4 = r by omega]
theorem digV (x : Wd) (s : Nat) (b : UInt8) (h : UInt8.ofNat (x.toNat / 2 ^ s) = b) : (x.toNat : Int) / (2 : Int) ^ s % 256 = (b.toNat : Int) := by
  rw [← h, UInt8.toNat_ofNat']; simp
theorem DRow.set_ne {w : World} {g k : Nat} {s : Nat → UInt8} (h : DRow w k s) (i : Nat) (v : Value) (hn : g ≠ k) : DRow (w.setCell ⟨g, i, none⟩ v) k s := by
  unfold DRow dg_rowOk dg_rowAt at *
  rw [heap_setCell_ne w g k i v hn]; exact h
set_option linter.unusedSimpArgs false in
set_option maxHeartbeats 800000 in
theorem shaHigh_any (S : S8) (w : World) :
    Calls Try.prog 18 #[.agg (wdA S.toL)] w fun e w' => e = .returned (.agg (dg_secA (digL S))) ∧ Below w.heap.size w w' := by
  have hS8 : S.toL.length = 8 := rfl
  go_enter Try.func18, Try.ntmps18
  go_wp2_with fail
  have hB : Below w.heap.size w (((w.alloc (.cells (wdA S.toL) 44)).alloc (.cells (dg_secA dg_secZ) 29)).alloc (.cells (dg_secA dg_secZ) 29)) := ((below_alloc w _).alloc (by simp) _).alloc (by simp; omega) _
  have hRr : DRow (((w.alloc (.cells (wdA S.toL) 44)).alloc (.cells (dg_secA dg_secZ) 29)).alloc (.cells (dg_secA dg_secZ) 29)) (w.heap.size + 1) dg_secZ := by
    have := (DRow.new (w.alloc (.cells (wdA S.toL) 44)) dg_secZ 29).kept (below_alloc _ (.cells (dg_secA dg_secZ) 29))
    rw [World.size_alloc] at this
    exact this
  have hRd : DRow (((w.alloc (.cells (wdA S.toL) 44)).alloc (.cells (dg_secA dg_secZ) 29)).alloc (.cells (dg_secA dg_secZ) 29)) (w.heap.size + 1 + 1) dg_secZ := by
    have := DRow.new ((w.alloc (.cells (wdA S.toL) 44)).alloc (.cells (dg_secA dg_secZ) 29)) dg_secZ 29
    rw [World.size_alloc, World.size_alloc] at this
    exact this
  obtain ⟨gr, hgr⟩ : ∃ g, w.heap.size + 1 = g := ⟨_, rfl⟩
  obtain ⟨gd, hgd⟩ : ∃ g, gr + 1 = g := ⟨_, rfl⟩
  rw [hgr, hgd] at hRd
  rw [hgr] at hRr
  have h1 : w.heap.size ≤ gr := by omega
  have h2 : w.heap.size ≤ gd := by omega
  have h3 : gd ≠ gr := by omega
  simp only [hgr, hgd]
  generalize ((w.alloc (.cells (wdA S.toL) 44)).alloc (.cells (dg_secA dg_secZ) 29)).alloc (.cells (dg_secA dg_secZ) 29) = Y at hB hRr hRd ⊢
  clear hgr hgd
  go_loopw [7] (fun i w5 => ∃ n : Nat, n ≤ 8 ∧ i = .int .i64 n ∧ DRow w5 gd (upTo (digL S) (4 * n)) ∧ DRow w5 gr dg_secZ ∧ Below w.heap.size w w5) (fun i _ => 8 - (intOf i).toNat)
  case atStart => exact ⟨0, by omega, rfl, by rw [Nat.mul_zero, upTo_zero]; exact hRd, hRr, hB⟩
  case round =>
    clear hRd hRr hB
    obtain ⟨k, hk, rfl, hRd, hRr, hB⟩ := hrel
    by_cases hlt : k < 8
    · have d0 := digB S k 0 (by omega)
      have d1 := digB S k 1 (by omega)
      have d2 := digB S k 2 (by omega)
      have d3 := digB S k 3 (by omega)
      have u0 := upTo_succ (digL S) (4 * k)
      have u1 := upTo_succ (digL S) (4 * k + 1)
      have u2 := upTo_succ (digL S) (4 * k + 2)
      have u3 := upTo_succ (digL S) (4 * k + 3)
      rw [show 4 * k + 1 + 1 = 4 * k + 2 from rfl] at u1
      rw [show 4 * k + 2 + 1 = 4 * k + 3 from rfl] at u2
      rw [show 4 * k + 3 + 1 = 4 * (k + 1) by omega] at u3
      rw [Nat.add_zero] at d0
      obtain ⟨m0, hm0⟩ : ∃ m, 4 * k = m := ⟨_, rfl⟩
      rw [hm0] at d0 d1 d2 d3 u0 u1 u2 u3
      rw [hm0] at hRd
      obtain ⟨m1, hm1⟩ : ∃ m, m0 + 1 = m := ⟨_, rfl⟩
      obtain ⟨m2, hm2⟩ : ∃ m, m0 + 2 = m := ⟨_, rfl⟩
      obtain ⟨m3, hm3⟩ : ∃ m, m0 + 3 = m := ⟨_, rfl⟩
      rw [hm1] at d1 u0 u1
      rw [hm2] at d2 u1 u2
      rw [hm3] at d3 u2 u3
      obtain ⟨W, hW⟩ : ∃ W, wAt S.toL k = W := ⟨_, rfl⟩
      rw [hW] at d0 d1 d2 d3
      generalize digL S = D at *
      obtain ⟨b0, hb0⟩ : ∃ b, D m0 = b := ⟨_, rfl⟩
      obtain ⟨b1, hb1⟩ : ∃ b, D m1 = b := ⟨_, rfl⟩
      obtain ⟨b2, hb2⟩ : ∃ b, D m2 = b := ⟨_, rfl⟩
      obtain ⟨b3, hb3⟩ : ∃ b, D m3 = b := ⟨_, rfl⟩
      rw [hb0] at d0 u0
      rw [hb1] at d1 u1
      rw [hb2] at d2 u2
      rw [hb3] at d3 u3
      have e0 : (W.toNat : Int) / 16777216 = (b0.toNat : Int) := by
        have h : (W.toNat : Int) / 16777216 % 256 = (b0.toNat : Int) := digV W 24 b0 d0.symm
        have := wd_lt W
        omega
      have e1 : (W.toNat : Int) / 65536 % 256 = (b1.toNat : Int) := digV W 16 b1 d1.symm
      have e2 : (W.toNat : Int) / 256 % 256 = (b2.toNat : Int) := digV W 8 b2 d2.symm
      have e3 : (W.toNat : Int) % 256 = (b3.toNat : Int) := by
        have := digV W 0 b3 d3.symm
        simpa using this
      have l0 : m0 < 32 := by omega
      have l1 : m1 < 32 := by omega
      have l2 : m2 < 32 := by omega
      have l3 : m3 < 32 := by omega
      have n0 : (4 : Int) * (k : Int) = (m0 : Int) := by omega
      have n1 : (m0 : Int) + 1 = (m1 : Int) := by omega
      have n2 : (m0 : Int) + 2 = (m2 : Int) := by omega
      have n3 : (m0 : Int) + 3 = (m3 : Int) := by omega
      have hk0 : (0 : Int) ≤ (k : Int) := by omega
      have hk1 : (k : Int) < 8 := by omega
      have c0 := hRd.cell m0 l0
      have f0 := hRd.frozen m0
      have HW : Hid (wAt S.toL k = W) := hW
      clear hb0 hb1 hb2 hb3 hm0 hm1 hm2 hm3 d0 d1 d2 d3
      go_upto_region 6 with fail
      have r0 : DRow (wr.setCell ⟨gd, m0, none⟩ (.int .u8 (b0.toNat : Int))) gd (upTo D m1) := by rw [u0]; exact hRd.set m0 b0 l0
      have q0 := hRr.set_ne m0 (.int .u8 (b0.toNat : Int)) h3
      have s0 := hB.setCell (p := ⟨gd, m0, none⟩) h2 (.int .u8 (b0.toNat : Int))
      clear hRd hRr hB c0 f0 e0
      generalize wr.setCell ⟨gd, m0, none⟩ (.int .u8 (b0.toNat : Int)) = y1 at *
      have c1 := r0.cell m1 l1
      have f1 := r0.frozen m1
      go_upto_region 7 with fail
      have r1 : DRow (y1.setCell ⟨gd, m1, none⟩ (.int .u8 (b1.toNat : Int))) gd (upTo D m2) := by rw [u1]; exact r0.set m1 b1 l1
      have q1 := q0.set_ne m1 (.int .u8 (b1.toNat : Int)) h3
      have s1 := s0.setCell (p := ⟨gd, m1, none⟩) h2 (.int .u8 (b1.toNat : Int))
      clear r0 q0 s0 c1 f1 e1
      generalize y1.setCell ⟨gd, m1, none⟩ (.int .u8 (b1.toNat : Int)) = y2 at *
      have c2 := r1.cell m2 l2
      have f2 := r1.frozen m2
      go_upto_region 8 with fail
      have r2 : DRow (y2.setCell ⟨gd, m2, none⟩ (.int .u8 (b2.toNat : Int))) gd (upTo D m3) := by rw [u2]; exact r1.set m2 b2 l2
      have q2 := q1.set_ne m2 (.int .u8 (b2.toNat : Int)) h3
      have s2 := s1.setCell (p := ⟨gd, m2, none⟩) h2 (.int .u8 (b2.toNat : Int))
      clear r1 q1 s1 c2 f2 e2
      generalize y2.setCell ⟨gd, m2, none⟩ (.int .u8 (b2.toNat : Int)) = y3 at *
      have c3 := r2.cell m3 l3
      have f3 := r2.frozen m3
      have r3 : DRow (y3.setCell ⟨gd, m3, none⟩ (.int .u8 (b3.toNat : Int))) gd (upTo D (4 * (k + 1))) := by rw [u3]; exact r2.set m3 b3 l3
      have q3 := q2.set_ne m3 (.int .u8 (b3.toNat : Int)) h3
      have s3 := s2.setCell (p := ⟨gd, m3, none⟩) h2 (.int .u8 (b3.toNat : Int))
      have HR : Hid _ := r3
      have HQ : Hid _ := q3
      have HB : Hid _ := s3
      clear r2 q2 s2 r3 q3 s3 u0 u1 u2 u3
      go_wp2
      go_roundw
      case rel => first | exact ⟨k + 1, by omega, by go_num, HR.out, HQ.out, HB.out⟩ | ((repeat apply Exists.intro); refine ⟨⟨k + 1, by omega, ?_, HR.out, HQ.out, HB.out⟩, rfl⟩; go_num)
      case measure => simp [intOf]; omega
    · obtain rfl : k = 8 := by omega
      obtain ⟨r1, q1⟩ := hRd
      obtain ⟨r2, q2⟩ := hRr
      rw [show 4 * 8 = 32 from rfl, upTo_all] at q1
      go_wp2
      refine dg_bodyPost_sec 2 gr rfl rfl rfl (by go_simp) ⟨?_, dg_below_row hB h1 _⟩
      go_simp
end Go.Proofs.Ytajmlfcbppnpgaa
