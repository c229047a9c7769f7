
import Derived.Test.YtajmlfcbppnpgaaSha2
namespace Go.Proofs.Ytajmlfcbppnpgaa
open Go.RowKit

def secB (b : Nat → UInt8) : List UInt8 := (List.range 64).map b
theorem secB_len (b : Nat → UInt8) : (secB b).length = 64 := by simp [secB]
theorem secB_get (b : Nat → UInt8) (i : Nat) (h : i < 64) : (secB b)[i]?.getD 0 = b i := by simp [secB, h]
/-- The schedule's row behind k words. -/
def schP (l : List UInt8) (k : Nat) : List Wd := sched l k ++ List.replicate (64 - k) 0#32
theorem schP_len (l : List UInt8) (k : Nat) (h : k ≤ 64) : (schP l k).length = 64 := by simp [schP, sched_length]; omega
theorem schP_get (l : List UInt8) (k j : Nat) (h : j < k) : wAt (schP l k) j = wAt (sched l k) j := by
  unfold wAt schP
  rw [List.getElem?_append_left (by rw [sched_length]; exact h)]
theorem schP_succ (l : List UInt8) (k : Nat) (x : Wd) (h : k < 64) (hx : sched l (k + 1) = sched l k ++ [x]) : schP l (k + 1) = (schP l k).set k x := by
  unfold schP
  rw [hx, List.set_append_right _ _ (by rw [sched_length]; omega), sched_length, Nat.sub_self, show 64 - k = (64 - (k + 1)) + 1 by omega, List.replicate_succ]
  simp
theorem schP_zero (l : List UInt8) : schP l 0 = zW64 := rfl
theorem schP_all (l : List UInt8) : schP l 64 = sched l 64 := by simp [schP]
set_option linter.unusedSimpArgs false in
set_option maxRecDepth 100000 in
set_option maxHeartbeats 1600000 in
theorem shaSched_any (b : Nat → UInt8) (w : World) :
    Calls Try.prog 22 #[.agg (secA b)] w fun e w' => e = .returned (.agg (wdA (sched (secB b) 64))) ∧ Below w.heap.size w w' := by
  obtain ⟨l, hl⟩ : ∃ l, secB b = l := ⟨_, rfl⟩
  rw [hl]
  go_enter Try.func22, Try.ntmps22
  go_wp2_with fail
  have hB : Below w.heap.size w (((w.alloc (.cells (secA b) 46)).alloc (.cells (wdA zW64) 55)).alloc (.cells (wdA zW64) 55)) := ((below_alloc w _).alloc (by simp) _).alloc (by simp; omega) _
  have hR1 : RowC (((w.alloc (.cells (secA b) 46)).alloc (.cells (wdA zW64) 55)).alloc (.cells (wdA zW64) 55)) w.heap.size (secA b) := ((RowC.new w (secA b) _).kept (below_alloc _ _)).kept (below_alloc _ _)
  have hR2 : RowC (((w.alloc (.cells (secA b) 46)).alloc (.cells (wdA zW64) 55)).alloc (.cells (wdA zW64) 55)) (w.heap.size + 1) (wdA zW64) := by
    have := (RowC.new (w.alloc (.cells (secA b) 46)) (wdA zW64) 55).kept (below_alloc _ (.cells (wdA zW64) 55))
    rw [World.size_alloc] at this
    exact this
  have hR3 : RowC (((w.alloc (.cells (secA b) 46)).alloc (.cells (wdA zW64) 55)).alloc (.cells (wdA zW64) 55)) (w.heap.size + 1 + 1) (wdA zW64) := by
    have := RowC.new ((w.alloc (.cells (secA b) 46)).alloc (.cells (wdA zW64) 55)) (wdA zW64) 55
    rw [World.size_alloc, World.size_alloc] at this
    exact this
  obtain ⟨g2, hg2⟩ : ∃ g, w.heap.size + 1 = g := ⟨_, rfl⟩
  obtain ⟨g3, hg3⟩ : ∃ g, g2 + 1 = g := ⟨_, rfl⟩
  rw [hg2] at hR2
  rw [hg2, hg3] at hR3
  have l2 : w.heap.size ≤ g2 := by omega
  have l3 : w.heap.size ≤ g3 := by omega
  have e13 : g3 ≠ w.heap.size := by omega
  have e23 : g3 ≠ g2 := by omega
  simp only [hg2, hg3]
  generalize ((w.alloc (.cells (secA b) 46)).alloc (.cells (wdA zW64) 55)).alloc (.cells (wdA zW64) 55) = Y at hB hR1 hR2 hR3 ⊢
  clear hg2 hg3
  have hbl : ∀ j, j < 64 → b j = l[j]?.getD 0 := fun j hj => by rw [← hl, secB_get b j hj]
  have hR3' : RowC Y g3 (wdA (schP l 0)) := by rw [schP_zero]; exact hR3
  clear hR3
  go_loopw [10] (fun i wr => ∃ k : Nat, k ≤ 16 ∧ i = .int .i64 k ∧ RowC wr g3 (wdA (schP l k)) ∧ RowC wr w.heap.size (secA b) ∧ RowC wr g2 (wdA zW64) ∧ Below w.heap.size w wr) (fun i _ => 16 - (intOf i).toNat)
  case atStart => exact ⟨0, by omega, rfl, hR3', hR1, hR2, hB⟩
  case round =>
    clear hR3' hR1 hR2 hB
    obtain ⟨k, hk, rfl, hO, hR1, hR2, hB⟩ := hrel
    by_cases hlt : k < 16
    · have HS0 : sched l (k + 1) = sched l k ++ [wordB l k] := sched_lo l k hlt
      unfold wordB at HS0
      have hsz := hB.size
      have cellw : ∀ j, j < 64 → wr.cell? ⟨w.heap.size, j, none⟩ = some (.int .u8 ((l[j]?.getD 0).toNat : Int)) := fun j hj => by rw [hR1.cell j, secA_get b j hj, hbl j hj]
      obtain ⟨m0, hm0⟩ : ∃ m : Nat, 4 * k = m := ⟨_, rfl⟩
      obtain ⟨m1, hm1⟩ : ∃ m : Nat, m0 + 1 = m := ⟨_, rfl⟩
      obtain ⟨m2, hm2⟩ : ∃ m : Nat, m0 + 2 = m := ⟨_, rfl⟩
      obtain ⟨m3, hm3⟩ : ∃ m : Nat, m0 + 3 = m := ⟨_, rfl⟩
      rw [hm0, hm1, hm2, hm3] at HS0
      have hc0 := cellw m0 (by omega)
      have hc1 := cellw m1 (by omega)
      have hc2 := cellw m2 (by omega)
      have hc3 := cellw m3 (by omega)
      generalize l[m0]?.getD 0 = c0 at HS0 hc0
      generalize l[m1]?.getD 0 = c1 at HS0 hc1
      generalize l[m2]?.getD 0 = c2 at HS0 hc2
      generalize l[m3]?.getD 0 = c3 at HS0 hc3
      have n0 : (4 : Int) * (k : Int) = (m0 : Int) := by omega
      have n1 : (m0 : Int) + 1 = (m1 : Int) := by omega
      have n2 : (m0 : Int) + 2 = (m2 : Int) := by omega
      have n3 : (m0 : Int) + 3 = (m3 : Int) := by omega
      have b0 : (m0 : Int) < 64 := by omega
      have b1 : (m1 : Int) < 64 := by omega
      have b2 : (m2 : Int) < 64 := by omega
      have b3 : (m3 : Int) < 64 := by omega
      have hy0 := sh24 c0
      have hy1 := sh16 c1
      have hy2 := sh8 c2
      have hz1 := or_wd (bw c0 <<< 24) (bw c1 <<< 16)
      have hz2 := or_wd (bw c0 <<< 24 ||| bw c1 <<< 16) (bw c2 <<< 8)
      have hz3 := or_wd ((bw c0 <<< 24 ||| bw c1 <<< 16) ||| bw c2 <<< 8) (bw c3)
      rw [← bw_nat] at hz3
      generalize ((bw c0 <<< 24 ||| bw c1 <<< 16) ||| bw c2 <<< 8) ||| bw c3 = z3 at hz3 HS0
      generalize (bw c0 <<< 24 ||| bw c1 <<< 16) ||| bw c2 <<< 8 = z2 at hz3 hz2
      generalize bw c0 <<< 24 ||| bw c1 <<< 16 = z1 at hz2 hz1
      generalize bw c0 <<< 24 = y0 at hy0 hz1
      generalize bw c1 <<< 16 = y1 at hy1 hz1
      generalize bw c2 <<< 8 = y2 at hy2 hz2
      have d0 := c0.toNat_lt
      have d1 := c1.toNat_lt
      have d2 := c2.toNat_lt
      have d3 := c3.toNat_lt
      have wm0 := wrap64 m0 (by omega)
      have wm1 := wrap64 m1 (by omega)
      have wm2 := wrap64 m2 (by omega)
      have wm3 := wrap64 m3 (by omega)
      have wc0 := wrap8 c0
      have wc1 := wrap8 c1
      have wc2 := wrap8 c2
      have wc3 := wrap8 c3
      have HN : Hid (schP l (k + 1) = (schP l k).set k z3) := schP_succ l k z3 (by omega) HS0
      have hkc : wr.cell? ⟨g3, k, none⟩ = some (.int .u32 ((wAt (schP l k) k).toNat : Nat)) := by rw [hO.cell k, wdA_get _ k (by rw [schP_len l k (by omega)]; omega)]
      generalize hkv : wAt (schP l k) k = kv at hkc
      clear HS0 cellw hm0 hm1 hm2 hm3 hbl hl hkv
      have hk0 : (0 : Int) ≤ (k : Int) := by omega
      have hk1 : (k : Int) < 16 := by omega
      have hk64 : (k : Int) < 64 := by omega
      go_upto_region 5 with fail
      refine wp_reliesT [Fx (.int .i64 (k : Nat)), Fx (.int .i64 (k : Nat)), Fx (.int .i64 (m0 : Nat)), Fx (.pointer (some ⟨w.heap.size, m0, none⟩)), Fx (.int .u8 (c0.toNat : Int)), Fx (.int .u32 (c0.toNat : Int)), Fx (.int .u32 (y0.toNat : Nat)), Fx (.int .i64 (k : Nat)), Fx (.int .i64 (m0 : Nat)), Fx (.int .i64 (m1 : Nat)), Fx (.pointer (some ⟨w.heap.size, m1, none⟩)), Fx (.int .u8 (c1.toNat : Int)), Fx (.int .u32 (c1.toNat : Int)), Fx (.int .u32 (y1.toNat : Nat)), Fx (.int .u32 (z1.toNat : Nat)), Fx (.int .i64 (k : Nat)), Fx (.int .i64 (m0 : Nat)), Fx (.int .i64 (m2 : Nat)), Fx (.pointer (some ⟨w.heap.size, m2, none⟩)), Fx (.int .u8 (c2.toNat : Int)), Fx (.int .u32 (c2.toNat : Int)), Fx (.int .u32 (y2.toNat : Nat)), Fx (.int .u32 (z2.toNat : Nat)), Fx (.int .i64 (k : Nat)), Fx (.int .i64 (m0 : Nat)), Fx (.int .i64 (m3 : Nat)), Fx (.pointer (some ⟨w.heap.size, m3, none⟩)), Fx (.int .u8 (c3.toNat : Int)), Fx (.int .u32 (c3.toNat : Int)), Fx (.int .u32 (z3.toNat : Nat)), Fx (.pointer (some ⟨g3, k, none⟩))] (by kernel_rfl) (by kernel_rfl) ?_ ?_ ?_
      · repeat' (first | exact all_nil | apply all_cons)
        all_goals intro v y y' hv hb
        all_goals first | exact Fx_mono _ _ _ _ hv hb
      · refine ⟨?_, ?_, ?_, ?_, ?_, ?_, ?_, ?_, ?_, ?_, ?_, ?_, ?_, ?_, ?_, ?_, ?_, ?_, ?_, ?_, ?_, ?_, ?_, ?_, ?_, ?_, ?_, ?_, ?_, ?_, ?_, trivial⟩
        all_goals
          intro ρ x hp ρc ρg ρf ho hd
          have o1 : ρ (.tmp 1) = .pointer (some ⟨w.heap.size, 0, none⟩) := ho 1 rfl
          have o3 : ρ (.tmp 3) = .pointer (some ⟨g3, 0, none⟩) := ho 3 rfl
          have o4 : ρ (.tmp 4) = .int .i64 (k : Nat) := ho 4 rfl
          clear ho
          have p0 := cell_later hp hc0
          have p1 := cell_later hp hc1
          have p2 := cell_later hp hc2
          have p3 := cell_later hp hc3
          simp only [depsR, depR, slotR, Fx, List.getElem?_cons_succ, List.getElem?_cons_zero, Region.binds, forall_const] at hd
          simp only [guardR]
          go_split_ands
        · go_simp
        · go_simp
        · go_simp
        · go_simp
        · go_simp
        · go_simp
        · go_simp
        · go_simp
        · go_simp
        · go_simp
        · go_simp
        · go_simp
        · go_simp
        · go_simp
        · go_simp
        · go_simp
        · go_simp
        · go_simp
        · go_simp
        · go_simp
        · go_simp
        · go_simp
        · go_simp
        · go_simp
        · go_simp
        · go_simp
        · go_simp
        · go_simp
        · go_simp
        · go_simp
        · go_simp
      · intro vs x1 hp hw
        simp only [owed, Fx] at hw
        obtain ⟨e0, e1, e2, e3, e4, e5, e6, e7, e8, e9, e10, e11, e12, e13, e14, e15, e16, e17, e18, e19, e20, e21, e22, e23, e24, e25, e26, e27, e28, e29, e30, -⟩ := hw
        simp only [List.length_cons, List.length_nil, List.take_succ_cons, List.take_zero, List.drop_succ_cons, List.drop_zero, asg, List.cons_append, List.nil_append, e0, e1, e2, e3, e4, e5, e6, e7, e8, e9, e10, e11, e12, e13, e14, e15, e16, e17, e18, e19, e20, e21, e22, e23, e24, e25, e26, e27, e28, e29, e30]
        clear e0 e1 e2 e3 e4 e5 e6 e7 e8 e9 e10 e11 e12 e13 e14 e15 e16 e17 e18 e19 e20 e21 e22 e23 e24 e25 e26 e27 e28 e29 e30
        have hO1 := hO.kept hp
        have hkc1 := cell_later hp hkc
        have hfz := hO1.frozen k
        have HO : Hid (RowC (x1.setCell ⟨g3, k, none⟩ (.int .u32 ((z3.toNat : Nat) : Int))) g3 (wdA (schP l (k + 1)))) := by show RowC _ _ _; rw [HN.out, ← wdA_set]; exact hO1.set k _
        have H1 : Hid _ := (hR1.kept hp).set_ne k (.int .u32 ((z3.toNat : Nat) : Int)) e13
        have H2 : Hid _ := (hR2.kept hp).set_ne k (.int .u32 ((z3.toNat : Nat) : Int)) e23
        have HB : Hid _ := (hB.trans (hp.mono hsz)).setCell (p := ⟨g3, k, none⟩) l3 (.int .u32 ((z3.toNat : Nat) : Int))
        clear hO hO1 hR1 hR2 hB hp hkc hc0 hc1 hc2 hc3
        go_wp2
        go_roundw
        case rel => first | exact ⟨k + 1, by omega, by go_num, HO.out, H1.out, H2.out, HB.out⟩ | ((repeat apply Exists.intro); refine ⟨⟨k + 1, by omega, ?_, HO.out, H1.out, H2.out, HB.out⟩, rfl⟩; go_num)
        case measure => simp [intOf]; omega
    · obtain rfl : k = 16 := by omega
      clear hR1
      go_wp2_with fail
      go_loopw [5] (fun i wr => ∃ k : Nat, 16 ≤ k ∧ k ≤ 64 ∧ i = .int .i64 k ∧ RowC wr g3 (wdA (schP l k)) ∧ RowC wr g2 (wdA zW64) ∧ Below w.heap.size w wr) (fun i _ => 64 - (intOf i).toNat)
      case atStart => exact ⟨16, by omega, by omega, rfl, hO, hR2, hB⟩
      case round =>
        clear hO hR2 hB
        obtain ⟨k, hk16, hk, rfl, hO, hR2, hB⟩ := hrel
        by_cases hlt : k < 64
        · have HS0 : sched l (k + 1) = _ := sched_hi l k hk16
          have hsz := hB.size
          have cellw : ∀ j, j < k → wr.cell? ⟨g3, j, none⟩ = some (.int .u32 ((wAt (sched l k) j).toNat : Nat)) := fun j hj => by rw [hO.cell j, wdA_get _ j (by rw [schP_len l k hk]; omega), schP_get l k j hj]
          obtain ⟨q2, hq2⟩ : ∃ m : Nat, k - 2 = m := ⟨_, rfl⟩
          obtain ⟨q7, hq7⟩ : ∃ m : Nat, k - 7 = m := ⟨_, rfl⟩
          obtain ⟨q15, hq15⟩ : ∃ m : Nat, k - 15 = m := ⟨_, rfl⟩
          obtain ⟨q16, hq16⟩ : ∃ m : Nat, k - 16 = m := ⟨_, rfl⟩
          rw [hq2, hq7, hq15, hq16] at HS0
          have hc2 := cellw q2 (by omega)
          have hc7 := cellw q7 (by omega)
          have hc15 := cellw q15 (by omega)
          have hc16 := cellw q16 (by omega)
          generalize wAt (sched l k) q2 = v2 at HS0 hc2
          generalize wAt (sched l k) q7 = v7 at HS0 hc7
          generalize wAt (sched l k) q15 = v15 at HS0 hc15
          generalize wAt (sched l k) q16 = v16 at HS0 hc16
          have n2 : IntKind.i64.wrap ((k : Int) - 2) = (q2 : Int) := by rw [IntKind.wrap_i64]; omega
          have n7 : IntKind.i64.wrap ((k : Int) - 7) = (q7 : Int) := by rw [IntKind.wrap_i64]; omega
          have n15 : IntKind.i64.wrap ((k : Int) - 15) = (q15 : Int) := by rw [IntKind.wrap_i64]; omega
          have n16 : IntKind.i64.wrap ((k : Int) - 16) = (q16 : Int) := by rw [IntKind.wrap_i64]; omega
          have b2 : (q2 : Int) < 64 := by omega
          have b7 : (q7 : Int) < 64 := by omega
          have b15 : (q15 : Int) < 64 := by omega
          have b16 : (q16 : Int) < 64 := by omega
          have hza : (v2.toNat : Int) / 1024 = ((v2 >>> 10).toNat : Int) := shr_wd v2 10
          have hzc : (v15.toNat : Int) / 8 = ((v15 >>> 3).toNat : Int) := shr_wd v15 3
          unfold sm1 sm0 at HS0
          obtain ⟨ra, hra⟩ : ∃ y, rotr v2 17 = y := ⟨_, rfl⟩
          obtain ⟨rb, hrb⟩ : ∃ y, rotr v2 19 = y := ⟨_, rfl⟩
          obtain ⟨rc, hrc⟩ : ∃ y, rotr v15 7 = y := ⟨_, rfl⟩
          obtain ⟨rd, hrd⟩ : ∃ y, rotr v15 18 = y := ⟨_, rfl⟩
          rw [hra, hrb, hrc, hrd] at HS0
          have Hra : Hid _ := hra
          have Hrb : Hid _ := hrb
          have Hrc : Hid _ := hrc
          have Hrd : Hid _ := hrd
          clear hra hrb hrc hrd
          have hxa := xor_wd ra rb
          have hxb := xor_wd (ra ^^^ rb) (v2 >>> 10)
          have hxc := xor_wd rc rd
          have hxd := xor_wd (rc ^^^ rd) (v15 >>> 3)
          have hsa := addw ((ra ^^^ rb) ^^^ (v2 >>> 10)) v7
          have hsb := addw (((ra ^^^ rb) ^^^ (v2 >>> 10)) + v7) ((rc ^^^ rd) ^^^ (v15 >>> 3))
          have hsc := addw ((((ra ^^^ rb) ^^^ (v2 >>> 10)) + v7) + ((rc ^^^ rd) ^^^ (v15 >>> 3))) v16
          generalize ((((ra ^^^ rb) ^^^ (v2 >>> 10)) + v7) + ((rc ^^^ rd) ^^^ (v15 >>> 3))) + v16 = sc at hsc HS0
          generalize (((ra ^^^ rb) ^^^ (v2 >>> 10)) + v7) + ((rc ^^^ rd) ^^^ (v15 >>> 3)) = sb at hsc hsb
          generalize ((ra ^^^ rb) ^^^ (v2 >>> 10)) + v7 = sa at hsb hsa
          generalize (ra ^^^ rb) ^^^ (v2 >>> 10) = xb at hsa hxb
          generalize (rc ^^^ rd) ^^^ (v15 >>> 3) = xd at hsb hxd
          generalize ra ^^^ rb = xa at hxb hxa
          generalize rc ^^^ rd = xc at hxd hxc
          generalize v2 >>> 10 = za at hza hxb
          generalize v15 >>> 3 = zc at hzc hxd
          have HN : Hid (schP l (k + 1) = (schP l k).set k sc) := schP_succ l k sc (by omega) HS0
          have hkc : wr.cell? ⟨g3, k, none⟩ = some (.int .u32 ((wAt (schP l k) k).toNat : Nat)) := by rw [hO.cell k, wdA_get _ k (by rw [schP_len l k (by omega)]; omega)]
          generalize hkv : wAt (schP l k) k = kv at hkc
          clear HS0 cellw hbl hl hkv
          have hk0 : (0 : Int) ≤ (k : Int) := by omega
          have hk1 : (k : Int) < 64 := by omega
          have HO0 : Hid _ := hO
          have HR0 : Hid _ := hR2
          have HB0 : Hid _ := hB
          clear hO hR2 hB
          go_upto_region 10 with fail
          go_quiet (fail)
          go_upto_region 11 with fail
          obtain ⟨y, hy, hyB⟩ : ∃ y, wr.drewN nq = y ∧ Below wr.heap.size wr y := ⟨_, rfl, below_drewN (Below.refl _ _) _⟩
          rw [hy]
          clear hy
          replace hc7 := cell_later hyB hc7
          replace hc16 := cell_later hyB hc16
          replace hkc := cell_later hyB hkc
          clear hc2 hc15
          refine wp_plains [Fx (.int .u32 (v2.toNat : Nat)), Fx (.int .u32 (ra.toNat : Nat)), Fx (.int .u32 (v2.toNat : Nat)), Fx (.int .u32 (rb.toNat : Nat)), Fx (.int .u32 (xa.toNat : Nat)), Fx (.int .u32 (v2.toNat : Nat)), Fx (.int .u32 (za.toNat : Nat)), Fx (.int .u32 (xb.toNat : Nat)), Fx (.int .u32 (xb.toNat : Nat))] (by kernel_rfl) (by kernel_rfl) ?_ ?_ ?_
          · repeat' (first | exact all_nil | apply all_cons)
            all_goals intro v y y' hv hb
            all_goals first | exact Fx_mono _ _ _ _ hv hb
          · refine ⟨?_, ?_, ?_, ?_, ?_, ?_, ?_, ?_, ?_, trivial⟩
            all_goals
              intro ρ x hp ρc ρg ρf ho hd
              have o6 : ρ (.tmp 6) = .int .u32 (v2.toNat : Nat) := ho 6 rfl
              clear ho
              simp only [depsR, depR, slotR, Fx, List.getElem?_cons_succ, List.getElem?_cons_zero, Region.binds, forall_const] at hd
              simp only [guardR]
              go_split_ands
            · go_simp
            · go_simp
              have hz := shaRot_any v2 17 x (by omega) (by omega)
              rw [Hra.out] at hz
              refine hz.mono ?_
              rintro e x' ⟨rfl, hb⟩
              exact ⟨_, rfl, rfl, hb⟩
            · go_simp
            · go_simp
              have hz := shaRot_any v2 19 x (by omega) (by omega)
              rw [Hrb.out] at hz
              refine hz.mono ?_
              rintro e x' ⟨rfl, hb⟩
              exact ⟨_, rfl, rfl, hb⟩
            · go_simp
            · go_simp
            · go_simp
              exact congrArg (Value.int .u32) hza
            · go_simp
            · go_simp
          · intro vs x2 hp2 hw
            simp only [owed, Fx] at hw
            obtain ⟨e0, e1, e2, e3, e4, e5, e6, e7, e8, -⟩ := hw
            simp only [List.length_cons, List.length_nil, List.take_succ_cons, List.take_nil, List.drop_succ_cons, List.drop_nil, asg, List.cons_append, List.nil_append, e0, e1, e2, e3, e4, e5, e6, e7, e8]
            clear e0 e1 e2 e3 e4 e5 e6 e7 e8
            replace hc7 := cell_later hp2 hc7
            replace hc16 := cell_later hp2 hc16
            replace hkc := cell_later hp2 hkc
            have hyC : Below wr.heap.size wr x2 := hyB.trans (hp2.mono hyB.size)
            clear hyB hp2
            go_upto_region 12 with fail
            refine wp_plains [Fx (.int .u32 (v15.toNat : Nat)), Fx (.int .u32 (rc.toNat : Nat)), Fx (.int .u32 (v15.toNat : Nat)), Fx (.int .u32 (rd.toNat : Nat)), Fx (.int .u32 (xc.toNat : Nat)), Fx (.int .u32 (v15.toNat : Nat)), Fx (.int .u32 (zc.toNat : Nat)), Fx (.int .u32 (xd.toNat : Nat)), Fx (.int .u32 (xd.toNat : Nat))] (by kernel_rfl) (by kernel_rfl) ?_ ?_ ?_
            · repeat' (first | exact all_nil | apply all_cons)
              all_goals intro v y y' hv hb
              all_goals first | exact Fx_mono _ _ _ _ hv hb
            · refine ⟨?_, ?_, ?_, ?_, ?_, ?_, ?_, ?_, ?_, trivial⟩
              all_goals
                intro ρ x hp ρc ρg ρf ho hd
                have o7 : ρ (.tmp 7) = .int .u32 (v15.toNat : Nat) := ho 7 rfl
                clear ho
                simp only [depsR, depR, slotR, Fx, List.getElem?_cons_succ, List.getElem?_cons_zero, Region.binds, forall_const] at hd
                simp only [guardR]
                go_split_ands
              · go_simp
              · go_simp
                have hz := shaRot_any v15 7 x (by omega) (by omega)
                rw [Hrc.out] at hz
                refine hz.mono ?_
                rintro e x' ⟨rfl, hb⟩
                exact ⟨_, rfl, rfl, hb⟩
              · go_simp
              · go_simp
                have hz := shaRot_any v15 18 x (by omega) (by omega)
                rw [Hrd.out] at hz
                refine hz.mono ?_
                rintro e x' ⟨rfl, hb⟩
                exact ⟨_, rfl, rfl, hb⟩
              · go_simp
              · go_simp
              · go_simp
                exact congrArg (Value.int .u32) hzc
              · go_simp
              · go_simp
            · intro vs x3 hp3 hw
              simp only [owed, Fx] at hw
              obtain ⟨e0, e1, e2, e3, e4, e5, e6, e7, e8, -⟩ := hw
              simp only [List.length_cons, List.length_nil, List.take_succ_cons, List.take_nil, List.drop_succ_cons, List.drop_nil, asg, List.cons_append, List.nil_append, e0, e1, e2, e3, e4, e5, e6, e7, e8]
              clear e0 e1 e2 e3 e4 e5 e6 e7 e8
              replace hc7 := cell_later hp3 hc7
              replace hc16 := cell_later hp3 hc16
              replace hkc := cell_later hp3 hkc
              have hyD : Below wr.heap.size wr x3 := hyC.trans (hp3.mono hyC.size)
              clear hyC hp3
              go_upto_region 13 with fail
              refine wp_reliesT [Fx (.int .i64 (k : Nat)), Fx (.int .u32 (xb.toNat : Nat)), Fx (.int .i64 (k : Nat)), Fx (.int .i64 (q7 : Nat)), Fx (.pointer (some ⟨g3, q7, none⟩)), Fx (.int .u32 (v7.toNat : Nat)), Fx (.int .u32 (sa.toNat : Nat)), Fx (.int .u32 (xd.toNat : Nat)), Fx (.int .u32 (sb.toNat : Nat)), Fx (.int .i64 (k : Nat)), Fx (.int .i64 (q16 : Nat)), Fx (.pointer (some ⟨g3, q16, none⟩)), Fx (.int .u32 (v16.toNat : Nat)), Fx (.int .u32 (sc.toNat : Nat)), Fx (.pointer (some ⟨g3, k, none⟩))] (by kernel_rfl) (by kernel_rfl) ?_ ?_ ?_
              · repeat' (first | exact all_nil | apply all_cons)
                all_goals intro v y y' hv hb
                all_goals first | exact Fx_mono _ _ _ _ hv hb
              · refine ⟨?_, ?_, ?_, ?_, ?_, ?_, ?_, ?_, ?_, ?_, ?_, ?_, ?_, ?_, ?_, trivial⟩
                all_goals
                  intro ρ x hp ρc ρg ρf ho hd
                  have o3 : ρ (.tmp 3) = .pointer (some ⟨g3, 0, none⟩) := ho 3 rfl
                  have o5 : ρ (.tmp 5) = .int .i64 (k : Nat) := ho 5 rfl
                  have o8 : ρ (.tmp 8) = .int .u32 (xb.toNat : Nat) := ho 8 rfl
                  have o9 : ρ (.tmp 9) = .int .u32 (xd.toNat : Nat) := ho 9 rfl
                  clear ho
                  have p7 := cell_later hp hc7
                  have p16 := cell_later hp hc16
                  simp only [depsR, depR, slotR, Fx, List.getElem?_cons_succ, List.getElem?_cons_zero, Region.binds, forall_const] at hd
                  simp only [guardR]
                  go_split_ands
                · go_simp
                · go_simp
                · go_simp
                · go_simp
                · go_simp
                · go_simp
                · go_simp
                · go_simp
                · go_simp
                · go_simp
                · go_simp
                · go_simp
                · go_simp
                · go_simp
                · go_simp
              · intro vs x4 hp4 hw
                simp only [owed, Fx] at hw
                obtain ⟨e0, e1, e2, e3, e4, e5, e6, e7, e8, e9, e10, e11, e12, e13, e14, -⟩ := hw
                simp only [List.length_cons, List.length_nil, List.take_succ_cons, List.take_zero, List.drop_succ_cons, List.drop_zero, asg, List.cons_append, List.nil_append, e0, e1, e2, e3, e4, e5, e6, e7, e8, e9, e10, e11, e12, e13, e14]
                clear e0 e1 e2 e3 e4 e5 e6 e7 e8 e9 e10 e11 e12 e13 e14
                have hyE : Below wr.heap.size wr x4 := hyD.trans (hp4.mono hyD.size)
                have hkc1 := cell_later hp4 hkc
                have hO1 := RowC.kept HO0.out hyE
                have hfz := hO1.frozen k
                have HO : Hid (RowC (x4.setCell ⟨g3, k, none⟩ (.int .u32 ((sc.toNat : Nat) : Int))) g3 (wdA (schP l (k + 1)))) := by show RowC _ _ _; rw [HN.out, ← wdA_set]; exact hO1.set k _
                have H2 : Hid _ := (RowC.kept HR0.out hyE).set_ne k (.int .u32 ((sc.toNat : Nat) : Int)) e23
                have HB : Hid _ := (HB0.out.trans (hyE.mono hsz)).setCell (p := ⟨g3, k, none⟩) l3 (.int .u32 ((sc.toNat : Nat) : Int))
                clear hO1 hyE hyD hp4 hkc hc7 hc16 HO0 HR0 HB0
                go_wp2
                go_roundw
                case rel => first | exact ⟨k + 1, by omega, by omega, by go_num, HO.out, H2.out, HB.out⟩ | ((repeat apply Exists.intro); refine ⟨⟨k + 1, by omega, by omega, ?_, HO.out, H2.out, HB.out⟩, rfl⟩; go_num)
                case measure => simp [intOf]; omega
        · obtain rfl : k = 64 := by omega
          rw [schP_all] at hO
          have h64 := sched_length l 64
          generalize hT : sched l 64 = T at hO h64 ⊢
          obtain ⟨r1, q1⟩ := hO
          obtain ⟨r2, q2⟩ := hR2
          have HQ : Hid (RowC (wr.setRow g2 (wdA T)) g2 (wdA T)) := RowC.setRow ⟨r2, q2⟩ _
          have HB : Hid _ := below_row hB l2 (wdA T)
          clear hB hbl hl
          go_wp2
          refine results_bigRow 55 _ 64 Try.underlying55 rfl sizeT_w64 rfl g2 rfl rfl _ HQ.out (by rw [wdA_size, h64]) ⟨by rw [hT], HB.out⟩
end Go.Proofs.Ytajmlfcbppnpgaa
