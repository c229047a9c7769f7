
import Derived.Test.YtajmlfcbppnpgaaShaR
namespace Go.Proofs.Ytajmlfcbppnpgaa
open Go.RowKit

theorem sh24 (b : UInt8) : IntKind.u32.wrap ((b.toNat : Int) * 16777216) = ((bw b <<< 24).toNat : Int) := by
  have h := shl_wd (bw b) 24
  rw [← bw_nat] at h
  rw [IntKind.wrap_u32, ← h]; rfl
theorem sh16 (b : UInt8) : IntKind.u32.wrap ((b.toNat : Int) * 65536) = ((bw b <<< 16).toNat : Int) := by
  have h := shl_wd (bw b) 16
  rw [← bw_nat] at h
  rw [IntKind.wrap_u32, ← h]; rfl
theorem sh8 (b : UInt8) : IntKind.u32.wrap ((b.toNat : Int) * 256) = ((bw b <<< 8).toNat : Int) := by
  have h := shl_wd (bw b) 8
  rw [← bw_nat] at h
  rw [IntKind.wrap_u32, ← h]; rfl
theorem wrap64 (m : Nat) (h : m < 9223372036854775808) : IntKind.i64.wrap (m : Int) = (m : Int) := by rw [IntKind.wrap_i64]; omega
theorem wrap8 (b : UInt8) : IntKind.u32.wrap (b.toNat : Int) = (b.toNat : Int) := by have := b.toNat_lt; rw [IntKind.wrap_u32]; omega
theorem addw (x y : Wd) : IntKind.u32.wrap ((x.toNat : Int) + (y.toNat : Int)) = ((x + y).toNat : Int) := by rw [IntKind.wrap_u32]; exact add_wd x y
theorem addr_ne {g k b o : Nat} (h : b ≠ g) : (⟨g, k, none⟩ : Addr) ≠ ⟨b, o, none⟩ := fun e => h (by injection e with e1; exact e1.symm)
theorem notw (x : Wd) : IntKind.u32.wrap ((4294967295 : Int) - (x.toNat : Int)) = ((~~~x).toNat : Int) := by
  have h := not_wd x
  have h2 := wd_lt (~~~x)
  rw [IntKind.wrap_u32, h]; omega
theorem sched_lo (l : List UInt8) (t : Nat) (h : t < 16) : sched l (t + 1) = sched l t ++ [wordB l t] := by
  rw [sched, nextW, if_pos h]
theorem sched_hi (l : List UInt8) (t : Nat) (h : 16 ≤ t) : sched l (t + 1) = sched l t ++ [((sm1 (wAt (sched l t) (t - 2)) + wAt (sched l t) (t - 7)) + sm0 (wAt (sched l t) (t - 15))) + wAt (sched l t) (t - 16)] := by
  rw [sched, nextW, if_neg (by omega)]
/-- i of the eight sums have been taken. -/
def addN (S T : List Wd) (i : Nat) : List Wd := (List.zipWith (· + ·) S T).take i ++ S.drop i
theorem addN_succ (S T : List Wd) (i : Nat) (h1 : i < S.length) (h2 : i < T.length) : addN S T (i + 1) = (addN S T i).set i (wAt S i + wAt T i) := by
  have hz : i < (List.zipWith (· + ·) S T).length := by simp; omega
  unfold addN
  rw [List.take_succ_eq_append_getElem hz]
  have hl : ((List.zipWith (· + ·) S T).take i).length = i := by simp; omega
  rw [List.set_append_right _ _ (by omega), hl, Nat.sub_self, List.drop_eq_getElem_cons h1]
  simp [wAt, h1, h2]
  rw [List.drop_eq_getElem_cons h1]; rfl
theorem addN_get (S T : List Wd) (i : Nat) (h1 : i < S.length) (h2 : i ≤ T.length) : wAt (addN S T i) i = wAt S i := by
  have hl : ((List.zipWith (· + ·) S T).take i).length = i := by simp; omega
  unfold wAt addN
  rw [List.getElem?_append_right (by omega), hl, Nat.sub_self, List.getElem?_drop]
  simp
theorem addN_len (S T : List Wd) (i : Nat) (h : S.length = T.length) (hi : i ≤ S.length) : (addN S T i).length = S.length := by simp [addN]; omega
theorem addN_all (S T : S8) : addN S.toL T.toL 8 = (S.add T).toL := rfl
theorem wsV_set (l : List Wd) (i : Nat) (x : Wd) : wsV (l.set i x) = (wsV l).set i (.int .u32 ((x.toNat : Nat) : Int)) := by simp [wsV, List.map_set]
set_option linter.unusedSimpArgs false in
set_option maxRecDepth 100000 in
set_option maxHeartbeats 1600000 in
theorem refStep_any (st : S8) (l : List UInt8) (xs xb : Option Addr) (cs cb : Nat) (w : World) (hs : IsG w (.slice xs 8 cs) (wsV st.toL)) (hb : IsB w (.slice xb 64 cb) l) (hl : l.length = 64) :
    Calls Try.prog 20 #[.slice xs 8 cs, .slice xb 64 cb] w fun e w' => ∃ g c, e = .returned (.slice (some ⟨g, 0, none⟩) 8 c) ∧ OwnG 42 w' w.heap.size (.slice (some ⟨g, 0, none⟩) 8 c) (wsV (stepB st l).toL) ∧ Below w.heap.size w w' := by
  obtain ⟨bb, ob, rfl, hbb, -⟩ := (hl ▸ hb : IsB w (.slice xb l.length cb) l).spot 0 (by omega)
  have hcb : ∀ j, j < 64 → w.cell? ⟨bb, ob + j, none⟩ = some (.int .u8 ((l[j]?.getD 0).toNat : Int)) := fun j hj => by
    obtain ⟨b', o', he, _, hc⟩ := (hl ▸ hb : IsB w (.slice (some ⟨bb, ob, none⟩) l.length cb) l).spot j (by omega)
    simp only [Option.some.injEq, Addr.mk.injEq, and_true] at he
    obtain ⟨rfl, rfl⟩ := he
    exact hc
  clear hb
  go_enter Try.func20, Try.ntmps20
  go_wp2_with fail
  refine (refConsts_any _).mono ?_
  rintro e X ⟨rfl, hX⟩
  have hBX : Below w.heap.size w X := by rw [hX]; exact below_alloc _ _
  have hsX : X.heap.size = w.heap.size + 1 := by rw [hX]; simp
  have hKX : OwnG 42 X w.heap.size (.slice (some ⟨w.heap.size, 0, none⟩) 64 64) (wsV kL) := by rw [hX]; exact OwnG.lit _ w (wsV kL) (by unfold maxLen; simp [wsV_length]; decide)
  clear hX
  go_wp2_with fail
  go_loopw [6, 7] (fun v i wr => ∃ k : Nat, k ≤ 16 ∧ i = .int .i64 k ∧ OwnG 42 wr X.heap.size v (wsV (sched l k)) ∧ Below X.heap.size X wr) (fun _ i _ => 16 - (intOf i).toNat)
  case atStart => exact ⟨0, by omega, rfl, OwnG.nil _ _ _, Below.refl _ _⟩
  case round =>
    obtain ⟨k, hk, rfl, hO, hB⟩ := hrel
    by_cases hlt : k < 16
    · have HS0 : sched l (k + 1) = sched l k ++ [wordB l k] := sched_lo l k hlt
      unfold wordB at HS0
      have hsz := hB.size
      have cellw : ∀ j, j < 64 → wr.cell? ⟨bb, ob + j, none⟩ = some (.int .u8 ((l[j]?.getD 0).toNat : Int)) := fun j hj => by rw [hB.cell (by simp; omega), hBX.cell (by simpa using hbb)]; exact hcb j hj
      have hlS : (wsV (sched l k)).length = k := by rw [wsV_length, sched_length]
      obtain ⟨m0, hm0⟩ : ∃ m : Nat, 4 * k = m := ⟨_, rfl⟩
      obtain ⟨m1, hm1⟩ : ∃ m : Nat, m0 + 1 = m := ⟨_, rfl⟩
      obtain ⟨m2, hm2⟩ : ∃ m : Nat, m0 + 2 = m := ⟨_, rfl⟩
      obtain ⟨m3, hm3⟩ : ∃ m : Nat, m0 + 3 = m := ⟨_, rfl⟩
      rw [hm0, hm1, hm2, hm3] at HS0
      have hc0 := cellw m0 (by omega)
      have hc1 := cellw m1 (by omega)
      have hc2 := cellw m2 (by omega)
      have hc3 := cellw m3 (by omega)
      generalize l[m0]?.getD 0 = c0 at HS0 hc0
      generalize l[m1]?.getD 0 = c1 at HS0 hc1
      generalize l[m2]?.getD 0 = c2 at HS0 hc2
      generalize l[m3]?.getD 0 = c3 at HS0 hc3
      have n0 : (4 : Int) * (k : Int) = (m0 : Int) := by omega
      have n1 : (m0 : Int) + 1 = (m1 : Int) := by omega
      have n2 : (m0 : Int) + 2 = (m2 : Int) := by omega
      have n3 : (m0 : Int) + 3 = (m3 : Int) := by omega
      have b0 : (m0 : Int) < 64 := by omega
      have b1 : (m1 : Int) < 64 := by omega
      have b2 : (m2 : Int) < 64 := by omega
      have b3 : (m3 : Int) < 64 := by omega
      have hy0 := sh24 c0
      have hy1 := sh16 c1
      have hy2 := sh8 c2
      have hz1 := or_wd (bw c0 <<< 24) (bw c1 <<< 16)
      have hz2 := or_wd (bw c0 <<< 24 ||| bw c1 <<< 16) (bw c2 <<< 8)
      have hz3 := or_wd ((bw c0 <<< 24 ||| bw c1 <<< 16) ||| bw c2 <<< 8) (bw c3)
      rw [← bw_nat] at hz3
      generalize ((bw c0 <<< 24 ||| bw c1 <<< 16) ||| bw c2 <<< 8) ||| bw c3 = z3 at hz3 HS0
      generalize (bw c0 <<< 24 ||| bw c1 <<< 16) ||| bw c2 <<< 8 = z2 at hz3 hz2
      generalize bw c0 <<< 24 ||| bw c1 <<< 16 = z1 at hz2 hz1
      generalize bw c0 <<< 24 = y0 at hy0 hz1
      generalize bw c1 <<< 16 = y1 at hy1 hz1
      generalize bw c2 <<< 8 = y2 at hy2 hz2
      have d0 := c0.toNat_lt
      have d1 := c1.toNat_lt
      have d2 := c2.toNat_lt
      have d3 := c3.toNat_lt
      have wm0 := wrap64 m0 (by omega)
      have wm1 := wrap64 m1 (by omega)
      have wm2 := wrap64 m2 (by omega)
      have wm3 := wrap64 m3 (by omega)
      have wc0 := wrap8 c0
      have wc1 := wrap8 c1
      have wc2 := wrap8 c2
      have wc3 := wrap8 c3
      have HS : Hid _ := HS0
      clear HS0 cellw hm0 hm1 hm2 hm3
      have hk0 : (0 : Int) ≤ (k : Int) := by omega
      have hk1 : (k : Int) < 16 := by omega
      go_upto_region 6 with fail
      refine wp_reliesT [Fx (u6), Fx (.slice (some ⟨bb, ob, none⟩) 64 cb), Fx (.int .i64 (k : Nat)), Fx (.int .i64 (m0 : Nat)), Fx (.pointer (some ⟨bb, ob + m0, none⟩)), Fx (.int .u8 (c0.toNat : Int)), Fx (.int .u32 (c0.toNat : Int)), Fx (.int .u32 (y0.toNat : Nat)), Fx (.slice (some ⟨bb, ob, none⟩) 64 cb), Fx (.int .i64 (k : Nat)), Fx (.int .i64 (m0 : Nat)), Fx (.int .i64 (m1 : Nat)), Fx (.pointer (some ⟨bb, ob + m1, none⟩)), Fx (.int .u8 (c1.toNat : Int)), Fx (.int .u32 (c1.toNat : Int)), Fx (.int .u32 (y1.toNat : Nat)), Fx (.int .u32 (z1.toNat : Nat)), Fx (.slice (some ⟨bb, ob, none⟩) 64 cb), Fx (.int .i64 (k : Nat)), Fx (.int .i64 (m0 : Nat)), Fx (.int .i64 (m2 : Nat)), Fx (.pointer (some ⟨bb, ob + m2, none⟩)), Fx (.int .u8 (c2.toNat : Int)), Fx (.int .u32 (c2.toNat : Int)), Fx (.int .u32 (y2.toNat : Nat)), Fx (.int .u32 (z2.toNat : Nat)), Fx (.slice (some ⟨bb, ob, none⟩) 64 cb), Fx (.int .i64 (k : Nat)), Fx (.int .i64 (m0 : Nat)), Fx (.int .i64 (m3 : Nat)), Fx (.pointer (some ⟨bb, ob + m3, none⟩)), Fx (.int .u8 (c3.toNat : Int)), Fx (.int .u32 (c3.toNat : Int)), Fx (.int .u32 (z3.toNat : Nat)), fun v x => ∃ q, v = .slice (some ⟨q, 0, none⟩) 1 1 ∧ x.cell? ⟨q, 0, none⟩ = some (.int .u32 (z3.toNat : Nat))] (by kernel_rfl) (by kernel_rfl) ?_ ?_ ?_
      · repeat' (first | exact all_nil | apply all_cons)
        all_goals intro v y y' hv hb
        all_goals first | exact Fx_mono _ _ _ _ hv hb | (obtain ⟨q, h1, h2⟩ := hv; exact ⟨q, h1, cell_later hb h2⟩)
      · refine ⟨?_, ?_, ?_, ?_, ?_, ?_, ?_, ?_, ?_, ?_, ?_, ?_, ?_, ?_, ?_, ?_, ?_, ?_, ?_, ?_, ?_, ?_, ?_, ?_, ?_, ?_, ?_, ?_, ?_, ?_, ?_, ?_, ?_, ?_, ?_, trivial⟩
        all_goals
          intro ρ x hp ρc ρg ρf ho hd
          have o1 : ρ (.tmp 1) = .slice (some ⟨bb, ob, none⟩) 64 cb := ho 1 rfl
          have o6 : ρ (.tmp 6) = u6 := ho 6 rfl
          have o7 : ρ (.tmp 7) = .int .i64 (k : Nat) := ho 7 rfl
          clear ho
          have p0 := cell_later hp hc0
          have p1 := cell_later hp hc1
          have p2 := cell_later hp hc2
          have p3 := cell_later hp hc3
          simp only [depsR, depR, slotR, Fx, List.getElem?_cons_succ, List.getElem?_cons_zero, Region.binds, forall_const] at hd
          simp only [guardR]
          go_split_ands
        · go_simp
        · go_simp
        · go_simp
        · go_simp
        · go_simp
        · go_simp
        · go_simp
        · go_simp
        · go_simp
        · go_simp
        · go_simp
        · go_simp
        · go_simp
        · go_simp
        · go_simp
        · go_simp
        · go_simp
        · go_simp
        · go_simp
        · go_simp
        · go_simp
        · go_simp
        · go_simp
        · go_simp
        · go_simp
        · go_simp
        · go_simp
        · go_simp
        · go_simp
        · go_simp
        · go_simp
        · go_simp
        · go_simp
        · go_simp
        · go_simp
          exact below_alloc _ _
      · intro vs x1 hp hw
        simp only [owed, Fx] at hw
        obtain ⟨e0, e1, e2, e3, e4, e5, e6, e7, e8, e9, e10, e11, e12, e13, e14, e15, e16, e17, e18, e19, e20, e21, e22, e23, e24, e25, e26, e27, e28, e29, e30, e31, e32, e33, ⟨q, e34, hq⟩, -⟩ := hw
        simp only [List.length_cons, List.length_nil, List.take_succ_cons, List.take_zero, List.drop_succ_cons, List.drop_zero, asg, List.cons_append, List.nil_append, e0, e1, e2, e3, e4, e5, e6, e7, e8, e9, e10, e11, e12, e13, e14, e15, e16, e17, e18, e19, e20, e21, e22, e23, e24, e25, e26, e27, e28, e29, e30, e31, e32, e33, e34]
        clear e0 e1 e2 e3 e4 e5 e6 e7 e8 e9 e10 e11 e12 e13 e14 e15 e16 e17 e18 e19 e20 e21 e22 e23 e24 e25 e26 e27 e28 e29 e30 e31 e32 e33 e34
        obtain ⟨v', w', hr, hO', -, hB'⟩ := run_app1G eltW x1 X.heap.size q 1 u6 (wsV (sched l k)) _ 52 (hO.keep hp) hq rfl (by omega) (by unfold maxLen; omega) (by have := hp.size; omega)
        have HO : Hid (OwnG 42 w' X.heap.size v' (wsV (sched l (k + 1)))) := by show OwnG _ _ _ _ _; rw [HS.out, wsV_snoc]; exact hO'
        have HB : Hid (Below X.heap.size X w') := (hB.trans (hp.mono hsz)).trans hB'
        clear hO hB hO' hB' hq hc0 hc1 hc2 hc3 hp
        go_wp2_with (at_builtin; refine wpL_appG 52 rfl _ _ rfl v' w' (by exact hr) ?_)
        go_roundw
        case rel => exact ⟨k + 1, by omega, by go_num, HO.out, HB.out⟩
        case measure => simp [intOf]; omega
    · obtain rfl : k = 16 := by omega
      go_wp2_with fail
      go_loopw [6, 8] (fun v i wr => ∃ k : Nat, 16 ≤ k ∧ k ≤ 64 ∧ i = .int .i64 k ∧ OwnG 42 wr X.heap.size v (wsV (sched l k)) ∧ Below X.heap.size X wr) (fun _ i _ => 64 - (intOf i).toNat)
      case atStart => exact ⟨16, by omega, by omega, rfl, hO, hB⟩
      case round =>
        clear hO hB
        obtain ⟨k, hk16, hk, rfl, hO, hB⟩ := hrel
        by_cases hlt : k < 64
        · have HS0 : sched l (k + 1) = _ := sched_hi l k hk16
          have hlS : (wsV (sched l k)).length = k := by rw [wsV_length, sched_length]
          obtain ⟨gw, cw, rfl, hgw, hgw2, hcw, -⟩ := hO.form (by intro h; rw [h] at hlS; simp at hlS; omega)
          rw [hlS] at hO hcw ⊢
          have hsz := hB.size
          have cellw : ∀ j, j < k → wr.cell? ⟨gw, j, none⟩ = some (.int .u32 ((wAt (sched l k) j).toNat : Nat)) := fun j hj => hO.cell j _ (wsV_get _ j (by rw [sched_length]; exact hj))
          obtain ⟨q2, hq2⟩ : ∃ m : Nat, k - 2 = m := ⟨_, rfl⟩
          obtain ⟨q7, hq7⟩ : ∃ m : Nat, k - 7 = m := ⟨_, rfl⟩
          obtain ⟨q15, hq15⟩ : ∃ m : Nat, k - 15 = m := ⟨_, rfl⟩
          obtain ⟨q16, hq16⟩ : ∃ m : Nat, k - 16 = m := ⟨_, rfl⟩
          rw [hq2, hq7, hq15, hq16] at HS0
          have hc2 := cellw q2 (by omega)
          have hc7 := cellw q7 (by omega)
          have hc15 := cellw q15 (by omega)
          have hc16 := cellw q16 (by omega)
          generalize wAt (sched l k) q2 = v2 at HS0 hc2
          generalize wAt (sched l k) q7 = v7 at HS0 hc7
          generalize wAt (sched l k) q15 = v15 at HS0 hc15
          generalize wAt (sched l k) q16 = v16 at HS0 hc16
          have n2 : IntKind.i64.wrap ((k : Int) - 2) = (q2 : Int) := by rw [IntKind.wrap_i64]; omega
          have n7 : IntKind.i64.wrap ((k : Int) - 7) = (q7 : Int) := by rw [IntKind.wrap_i64]; omega
          have n15 : IntKind.i64.wrap ((k : Int) - 15) = (q15 : Int) := by rw [IntKind.wrap_i64]; omega
          have n16 : IntKind.i64.wrap ((k : Int) - 16) = (q16 : Int) := by rw [IntKind.wrap_i64]; omega
          have b2 : (q2 : Int) < (k : Int) := by omega
          have b7 : (q7 : Int) < (k : Int) := by omega
          have b15 : (q15 : Int) < (k : Int) := by omega
          have b16 : (q16 : Int) < (k : Int) := by omega
          have hza : (v2.toNat : Int) / 1024 = ((v2 >>> 10).toNat : Int) := shr_wd v2 10
          have hzc : (v15.toNat : Int) / 8 = ((v15 >>> 3).toNat : Int) := shr_wd v15 3
          unfold sm1 sm0 at HS0
          obtain ⟨ra, hra⟩ : ∃ y, rotr v2 17 = y := ⟨_, rfl⟩
          obtain ⟨rb, hrb⟩ : ∃ y, rotr v2 19 = y := ⟨_, rfl⟩
          obtain ⟨rc, hrc⟩ : ∃ y, rotr v15 7 = y := ⟨_, rfl⟩
          obtain ⟨rd, hrd⟩ : ∃ y, rotr v15 18 = y := ⟨_, rfl⟩
          rw [hra, hrb, hrc, hrd] at HS0
          have Hra : Hid _ := hra
          have Hrb : Hid _ := hrb
          have Hrc : Hid _ := hrc
          have Hrd : Hid _ := hrd
          clear hra hrb hrc hrd
          have hxa := xor_wd ra rb
          have hxb := xor_wd (ra ^^^ rb) (v2 >>> 10)
          have hxc := xor_wd rc rd
          have hxd := xor_wd (rc ^^^ rd) (v15 >>> 3)
          have hsa := addw ((ra ^^^ rb) ^^^ (v2 >>> 10)) v7
          have hsb := addw (((ra ^^^ rb) ^^^ (v2 >>> 10)) + v7) ((rc ^^^ rd) ^^^ (v15 >>> 3))
          have hsc := addw ((((ra ^^^ rb) ^^^ (v2 >>> 10)) + v7) + ((rc ^^^ rd) ^^^ (v15 >>> 3))) v16
          generalize ((((ra ^^^ rb) ^^^ (v2 >>> 10)) + v7) + ((rc ^^^ rd) ^^^ (v15 >>> 3))) + v16 = sc at hsc HS0
          generalize (((ra ^^^ rb) ^^^ (v2 >>> 10)) + v7) + ((rc ^^^ rd) ^^^ (v15 >>> 3)) = sb at hsc hsb
          generalize ((ra ^^^ rb) ^^^ (v2 >>> 10)) + v7 = sa at hsb hsa
          generalize (ra ^^^ rb) ^^^ (v2 >>> 10) = xb at hsa hxb
          generalize (rc ^^^ rd) ^^^ (v15 >>> 3) = xd at hsb hxd
          generalize ra ^^^ rb = xa at hxb hxa
          generalize rc ^^^ rd = xc at hxd hxc
          generalize v2 >>> 10 = za at hza hxb
          generalize v15 >>> 3 = zc at hzc hxd
          have HS : Hid _ := HS0
          clear HS0 cellw hq2 hq7 hq15 hq16
          have hk0 : (0 : Int) ≤ (k : Int) := by omega
          have hk1 : (k : Int) < 64 := by omega
          go_upto_region 10 with fail
          refine wp_relies [Fx (.slice (some ⟨gw, 0, none⟩) k cw), Fx (.int .i64 (k : Nat)), Fx (.int .i64 (q2 : Nat)), Fx (.pointer (some ⟨gw, q2, none⟩)), Fx (.int .u32 (v2.toNat : Nat)), Fx (.int .u32 (ra.toNat : Nat)), Fx (.slice (some ⟨gw, 0, none⟩) k cw), Fx (.int .i64 (k : Nat)), Fx (.int .i64 (q2 : Nat)), Fx (.pointer (some ⟨gw, q2, none⟩)), Fx (.int .u32 (v2.toNat : Nat)), Fx (.int .u32 (rb.toNat : Nat)), Fx (.int .u32 (xa.toNat : Nat)), Fx (.slice (some ⟨gw, 0, none⟩) k cw), Fx (.int .i64 (k : Nat)), Fx (.int .i64 (q2 : Nat)), Fx (.pointer (some ⟨gw, q2, none⟩)), Fx (.int .u32 (v2.toNat : Nat)), Fx (.int .u32 (za.toNat : Nat)), Fx (.int .u32 (xb.toNat : Nat)), Fx (.int .u32 (xb.toNat : Nat))] (by kernel_rfl) (by kernel_rfl) ?_ ?_ ?_
          · repeat' (first | exact all_nil | apply all_cons)
            all_goals intro v y y' hv hb
            all_goals first | exact Fx_mono _ _ _ _ hv hb | (obtain ⟨q, h1, h2⟩ := hv; exact ⟨q, h1, cell_later hb h2⟩)
          · refine ⟨?_, ?_, ?_, ?_, ?_, ?_, ?_, ?_, ?_, ?_, ?_, ?_, ?_, ?_, ?_, ?_, ?_, ?_, ?_, ?_, ?_, trivial⟩
            all_goals
              intro ρ x hp ρc ρg ρf ho hd
              have o6 : ρ (.tmp 6) = .slice (some ⟨gw, 0, none⟩) k cw := ho 6 rfl
              have o8 : ρ (.tmp 8) = .int .i64 (k : Nat) := ho 8 rfl
              clear ho
              have p2 := cell_later hp hc2
              simp only [depsR, depR, slotR, Fx, List.getElem?_cons_succ, List.getElem?_cons_zero, Region.binds, forall_const] at hd
              simp only [guardR]
              go_split_ands
            · go_simp
            · go_simp
            · go_simp
            · go_simp
            · go_simp
            · go_simp
              have hz := refRot_any v2 17 x (by omega) (by omega)
              rw [Hra.out] at hz
              refine hz.mono ?_
              rintro e x' ⟨rfl, hb⟩
              exact ⟨_, rfl, rfl, hb⟩
            · go_simp
            · go_simp
            · go_simp
            · go_simp
            · go_simp
            · go_simp
              have hz := refRot_any v2 19 x (by omega) (by omega)
              rw [Hrb.out] at hz
              refine hz.mono ?_
              rintro e x' ⟨rfl, hb⟩
              exact ⟨_, rfl, rfl, hb⟩
            · go_simp
            · go_simp
            · go_simp
            · go_simp
            · go_simp
            · go_simp
            · go_simp
              exact congrArg (Value.int .u32) hza
            · go_simp
            · go_simp
          · intro vs x2 hp2 hw
            simp only [owed, Fx] at hw
            obtain ⟨e0, e1, e2, e3, e4, e5, e6, e7, e8, e9, e10, e11, e12, e13, e14, e15, e16, e17, e18, e19, e20, -⟩ := hw
            simp only [List.length_cons, List.length_nil, List.take_succ_cons, List.take_nil, List.drop_succ_cons, List.drop_nil, asg, List.cons_append, List.nil_append, e0, e1, e2, e3, e4, e5, e6, e7, e8, e9, e10, e11, e12, e13, e14, e15, e16, e17, e18, e19, e20]
            clear e0 e1 e2 e3 e4 e5 e6 e7 e8 e9 e10 e11 e12 e13 e14 e15 e16 e17 e18 e19 e20
            have hO2 := hO.keep hp2
            have hB2 : Below X.heap.size X x2 := hB.trans (hp2.mono hsz)
            have hsz2 := hB2.size
            replace hc7 := cell_later hp2 hc7
            replace hc15 := cell_later hp2 hc15
            replace hc16 := cell_later hp2 hc16
            clear hO hB hp2 hc2
            go_upto_region 11 with fail
            refine wp_relies [Fx (.slice (some ⟨gw, 0, none⟩) k cw), Fx (.int .i64 (k : Nat)), Fx (.int .i64 (q15 : Nat)), Fx (.pointer (some ⟨gw, q15, none⟩)), Fx (.int .u32 (v15.toNat : Nat)), Fx (.int .u32 (rc.toNat : Nat)), Fx (.slice (some ⟨gw, 0, none⟩) k cw), Fx (.int .i64 (k : Nat)), Fx (.int .i64 (q15 : Nat)), Fx (.pointer (some ⟨gw, q15, none⟩)), Fx (.int .u32 (v15.toNat : Nat)), Fx (.int .u32 (rd.toNat : Nat)), Fx (.int .u32 (xc.toNat : Nat)), Fx (.slice (some ⟨gw, 0, none⟩) k cw), Fx (.int .i64 (k : Nat)), Fx (.int .i64 (q15 : Nat)), Fx (.pointer (some ⟨gw, q15, none⟩)), Fx (.int .u32 (v15.toNat : Nat)), Fx (.int .u32 (zc.toNat : Nat)), Fx (.int .u32 (xd.toNat : Nat)), Fx (.int .u32 (xd.toNat : Nat))] (by kernel_rfl) (by kernel_rfl) ?_ ?_ ?_
            · repeat' (first | exact all_nil | apply all_cons)
              all_goals intro v y y' hv hb
              all_goals first | exact Fx_mono _ _ _ _ hv hb | (obtain ⟨q, h1, h2⟩ := hv; exact ⟨q, h1, cell_later hb h2⟩)
            · refine ⟨?_, ?_, ?_, ?_, ?_, ?_, ?_, ?_, ?_, ?_, ?_, ?_, ?_, ?_, ?_, ?_, ?_, ?_, ?_, ?_, ?_, trivial⟩
              all_goals
                intro ρ x hp ρc ρg ρf ho hd
                have o6 : ρ (.tmp 6) = .slice (some ⟨gw, 0, none⟩) k cw := ho 6 rfl
                have o8 : ρ (.tmp 8) = .int .i64 (k : Nat) := ho 8 rfl
                clear ho
                have p15 := cell_later hp hc15
                simp only [depsR, depR, slotR, Fx, List.getElem?_cons_succ, List.getElem?_cons_zero, Region.binds, forall_const] at hd
                simp only [guardR]
                go_split_ands
              · go_simp
              · go_simp
              · go_simp
              · go_simp
              · go_simp
              · go_simp
                have hz := refRot_any v15 7 x (by omega) (by omega)
                rw [Hrc.out] at hz
                refine hz.mono ?_
                rintro e x' ⟨rfl, hb⟩
                exact ⟨_, rfl, rfl, hb⟩
              · go_simp
              · go_simp
              · go_simp
              · go_simp
              · go_simp
              · go_simp
                have hz := refRot_any v15 18 x (by omega) (by omega)
                rw [Hrd.out] at hz
                refine hz.mono ?_
                rintro e x' ⟨rfl, hb⟩
                exact ⟨_, rfl, rfl, hb⟩
              · go_simp
              · go_simp
              · go_simp
              · go_simp
              · go_simp
              · go_simp
              · go_simp
                exact congrArg (Value.int .u32) hzc
              · go_simp
              · go_simp
            · intro vs x3 hp3 hw
              simp only [owed, Fx] at hw
              obtain ⟨e0, e1, e2, e3, e4, e5, e6, e7, e8, e9, e10, e11, e12, e13, e14, e15, e16, e17, e18, e19, e20, -⟩ := hw
              simp only [List.length_cons, List.length_nil, List.take_succ_cons, List.take_nil, List.drop_succ_cons, List.drop_nil, asg, List.cons_append, List.nil_append, e0, e1, e2, e3, e4, e5, e6, e7, e8, e9, e10, e11, e12, e13, e14, e15, e16, e17, e18, e19, e20]
              clear e0 e1 e2 e3 e4 e5 e6 e7 e8 e9 e10 e11 e12 e13 e14 e15 e16 e17 e18 e19 e20
              have hO3 := hO2.keep hp3
              have hB3 : Below X.heap.size X x3 := hB2.trans (hp3.mono hsz2)
              have hsz3 := hB3.size
              replace hc7 := cell_later hp3 hc7
              replace hc16 := cell_later hp3 hc16
              clear hO2 hB2 hp3 hc15
              go_upto_region 12 with fail
              refine wp_reliesT [Fx (.slice (some ⟨gw, 0, none⟩) k cw), Fx (.int .u32 (xb.toNat : Nat)), Fx (.slice (some ⟨gw, 0, none⟩) k cw), Fx (.int .i64 (k : Nat)), Fx (.int .i64 (q7 : Nat)), Fx (.pointer (some ⟨gw, q7, none⟩)), Fx (.int .u32 (v7.toNat : Nat)), Fx (.int .u32 (sa.toNat : Nat)), Fx (.int .u32 (xd.toNat : Nat)), Fx (.int .u32 (sb.toNat : Nat)), Fx (.slice (some ⟨gw, 0, none⟩) k cw), Fx (.int .i64 (k : Nat)), Fx (.int .i64 (q16 : Nat)), Fx (.pointer (some ⟨gw, q16, none⟩)), Fx (.int .u32 (v16.toNat : Nat)), Fx (.int .u32 (sc.toNat : Nat)), fun v x => ∃ q, v = .slice (some ⟨q, 0, none⟩) 1 1 ∧ x.cell? ⟨q, 0, none⟩ = some (.int .u32 (sc.toNat : Nat))] (by kernel_rfl) (by kernel_rfl) ?_ ?_ ?_
              · repeat' (first | exact all_nil | apply all_cons)
                all_goals intro v y y' hv hb
                all_goals first | exact Fx_mono _ _ _ _ hv hb | (obtain ⟨q, h1, h2⟩ := hv; exact ⟨q, h1, cell_later hb h2⟩)
              · refine ⟨?_, ?_, ?_, ?_, ?_, ?_, ?_, ?_, ?_, ?_, ?_, ?_, ?_, ?_, ?_, ?_, ?_, trivial⟩
                all_goals
                  intro ρ x hp ρc ρg ρf ho hd
                  have o6 : ρ (.tmp 6) = .slice (some ⟨gw, 0, none⟩) k cw := ho 6 rfl
                  have o8 : ρ (.tmp 8) = .int .i64 (k : Nat) := ho 8 rfl
                  have o9 : ρ (.tmp 9) = .int .u32 (xb.toNat : Nat) := ho 9 rfl
                  have o10 : ρ (.tmp 10) = .int .u32 (xd.toNat : Nat) := ho 10 rfl
                  clear ho
                  have p7 := cell_later hp hc7
                  have p16 := cell_later hp hc16
                  simp only [depsR, depR, slotR, Fx, List.getElem?_cons_succ, List.getElem?_cons_zero, Region.binds, forall_const] at hd
                  simp only [guardR]
                  go_split_ands
                · go_simp
                · go_simp
                · go_simp
                · go_simp
                · go_simp
                · go_simp
                · go_simp
                · go_simp
                · go_simp
                · go_simp
                · go_simp
                · go_simp
                · go_simp
                · go_simp
                · go_simp
                · go_simp
                · go_simp
                  exact below_alloc _ _
              · intro vs x4 hp4 hw
                simp only [owed, Fx] at hw
                obtain ⟨e0, e1, e2, e3, e4, e5, e6, e7, e8, e9, e10, e11, e12, e13, e14, e15, ⟨q, e16, hq⟩, -⟩ := hw
                simp only [List.length_cons, List.length_nil, List.take_succ_cons, List.take_zero, List.drop_succ_cons, List.drop_zero, asg, List.cons_append, List.nil_append, e0, e1, e2, e3, e4, e5, e6, e7, e8, e9, e10, e11, e12, e13, e14, e15, e16]
                clear e0 e1 e2 e3 e4 e5 e6 e7 e8 e9 e10 e11 e12 e13 e14 e15 e16
                obtain ⟨v', w', hr, hO', -, hB'⟩ := run_app1G eltW x4 X.heap.size q 1 _ (wsV (sched l k)) _ 52 (hO3.keep hp4) hq rfl (by omega) (by unfold maxLen; omega) (by have := hp4.size; omega)
                have HO : Hid (OwnG 42 w' X.heap.size v' (wsV (sched l (k + 1)))) := by show OwnG _ _ _ _ _; rw [HS.out, wsV_snoc]; exact hO'
                have HB : Hid (Below X.heap.size X w') := (hB3.trans (hp4.mono hsz3)).trans hB'
                clear hO3 hB3 hO' hB' hq hc7 hc16 hp4
                go_wp2_with (at_builtin; refine wpL_appG 52 rfl _ _ rfl v' w' (by exact hr) ?_)
                go_roundw
                case rel => first | exact ⟨k + 1, by omega, by omega, by go_num, HO.out, HB.out⟩ | ((repeat apply Exists.intro); refine ⟨⟨k + 1, by omega, by omega, ?_, HO.out, HB.out⟩, rfl⟩; go_num)
                case measure => simp [intOf]; omega
        · obtain rfl : k = 64 := by omega
          obtain ⟨bs, os, rfl, hbs, hcs0⟩ := hs.spot 0 (by rw [wsV_length]; show 0 < 8; omega)
          have hlS : (wsV (sched l 64)).length = 64 := by rw [wsV_length, sched_length]
          obtain ⟨gw, cw, rfl, hgw, hgw2, hcw0, -⟩ := hO.form (by intro h; rw [h] at hlS; simp at hlS)
          rw [hlS] at hO hcw0 ⊢
          have hsz := hB.size
          have hE : OwnG 42 (wr.alloc (.cells #[] 42)) X.heap.size (.slice (some ⟨wr.heap.size, 0, none⟩) 0 0) [] := (OwnG.lit 42 wr [] (by unfold maxLen; simp)).le hsz
          obtain ⟨v', X3, hr, hO', hg', hB'⟩ := run_appG eltW (wr.alloc (.cells #[] 42)) X.heap.size _ [] (wsV st.toL) ⟨bs, os, none⟩ cs 52 hE (fun j u hu => by
            rw [addr_add, World.cell?_alloc_lt _ _ _ (by simp; have := hBX.size; omega), hB.cell (by simp; have := hBX.size; omega), hBX.cell (by simpa using hbs)]; exact hcs0 j u hu) (wsV_one _) (by simp [wsV, S8.toL]) (by simp [wsV, S8.toL]) (by unfold maxLen; simp [wsV, S8.toL]) (by simp; omega)
          rw [List.nil_append] at hO'
          rw [show (wsV st.toL).length = 8 from rfl] at hr
          have hW3 : OwnG 42 X3 X.heap.size (.slice (some ⟨gw, 0, none⟩) 64 cw) (wsV (sched l 64)) := OwnG.grown (hO.keep (below_alloc _ _)) hg' (.inr (by simp [Value.ownBlock]; omega))
          have hB3 : Below X.heap.size X X3 := (hB.alloc hsz _).trans hB'
          have hs3 := hB3.size
          have hcw3 : ∀ j, j < 64 → X3.cell? ⟨gw, j, none⟩ = some (.int .u32 ((wAt (sched l 64) j).toNat : Nat)) := fun j hj => hW3.cell j _ (wsV_get _ j (by rw [sched_length]; exact hj))
          have hck3 : ∀ j, j < 64 → X3.cell? ⟨w.heap.size, j, none⟩ = some (.int .u32 ((wAt kL j).toNat : Nat)) := fun j hj => by rw [hB3.cell (by simp; omega)]; exact hKX.cell j _ (wsV_get _ j hj)
          have hcs3 : ∀ j, j < 8 → X3.cell? ⟨bs, os + j, none⟩ = some (.int .u32 ((wAt st.toL j).toNat : Nat)) := fun j hj => by rw [hB3.cell (by simp; omega), hBX.cell (by simpa using hbs)]; exact hcs0 j _ (wsV_get _ j hj)
          clear hO hB hE hg' hB' hW3 hcs0 hKX hs hcb hgw2
          go_wp2_with (at_builtin; refine wpL_appG 52 rfl _ _ rfl v' X3 (by exact hr) ?_)
          go_loopw [11, 12] (fun v i wr => ∃ k : Nat, k ≤ 64 ∧ i = .int .i64 k ∧ OwnG 42 wr X.heap.size v (wsV (rndN (sched l 64) k st).toL) ∧ Below X3.heap.size X3 wr) (fun _ i _ => 64 - (intOf i).toNat)
          case atStart => exact ⟨0, by omega, rfl, hO', Below.refl _ _⟩
          case round =>
            clear hO' hr
            obtain ⟨k, hk, rfl, hO, hB⟩ := hrel
            have hsz4 := hB.size
            obtain ⟨gx, cx, rfl, hgx, hgx2, hcx0, -⟩ := hO.form (by simp [wsV, S8.toL])
            rw [show (wsV (rndN (sched l 64) k st).toL).length = 8 from rfl] at hO hcx0 ⊢
            by_cases hlt : k < 64
            · have HS0 : (rndN (sched l 64) (k + 1) st).toL = (rnd (wAt kL k) (wAt (sched l 64) k) (rndN (sched l 64) k st)).toL := rfl
              have hck := cell_later hB (hck3 k hlt)
              have hcw := cell_later hB (hcw3 k hlt)
              have hxc : ∀ j, j < 8 → wr.cell? ⟨gx, j, none⟩ = some (.int .u32 ((wAt (rndN (sched l 64) k st).toL j).toNat : Nat)) := fun j hj => hO.cell j _ (wsV_get _ j hj)
              have hx0 := hxc 0 (by omega)
              have hx1 := hxc 1 (by omega)
              have hx2 := hxc 2 (by omega)
              have hx3 := hxc 3 (by omega)
              have hx4 := hxc 4 (by omega)
              have hx5 := hxc 5 (by omega)
              have hx6 := hxc 6 (by omega)
              have hx7 := hxc 7 (by omega)
              clear hxc hO
              generalize wAt kL k = kk at HS0 hck
              generalize wAt (sched l 64) k = ww at HS0 hcw
              generalize rndN (sched l 64) k st = s0 at HS0 hx0 hx1 hx2 hx3 hx4 hx5 hx6 hx7
              obtain ⟨a0, a1, a2, a3, a4, a5, a6, a7⟩ := s0
              replace hx0 : wr.cell? ⟨gx, 0, none⟩ = some (.int .u32 ((a0.toNat : Nat) : Int)) := hx0
              replace hx1 : wr.cell? ⟨gx, 1, none⟩ = some (.int .u32 ((a1.toNat : Nat) : Int)) := hx1
              replace hx2 : wr.cell? ⟨gx, 2, none⟩ = some (.int .u32 ((a2.toNat : Nat) : Int)) := hx2
              replace hx3 : wr.cell? ⟨gx, 3, none⟩ = some (.int .u32 ((a3.toNat : Nat) : Int)) := hx3
              replace hx4 : wr.cell? ⟨gx, 4, none⟩ = some (.int .u32 ((a4.toNat : Nat) : Int)) := hx4
              replace hx5 : wr.cell? ⟨gx, 5, none⟩ = some (.int .u32 ((a5.toNat : Nat) : Int)) := hx5
              replace hx6 : wr.cell? ⟨gx, 6, none⟩ = some (.int .u32 ((a6.toNat : Nat) : Int)) := hx6
              replace hx7 : wr.cell? ⟨gx, 7, none⟩ = some (.int .u32 ((a7.toNat : Nat) : Int)) := hx7
              replace HS0 : (rndN (sched l 64) (k + 1) st).toL = [((((a7 + bg1 a4) + chW a4 a5 a6) + kk + ww) + bg0 a0) + majW a0 a1 a2, a0, a1, a2, a3 + (((a7 + bg1 a4) + chW a4 a5 a6) + kk + ww), a4, a5, a6] := HS0
              unfold bg1 bg0 chW majW at HS0
              obtain ⟨ra, hra⟩ : ∃ y, rotr a4 6 = y := ⟨_, rfl⟩
              obtain ⟨rb, hrb⟩ : ∃ y, rotr a4 11 = y := ⟨_, rfl⟩
              obtain ⟨rc, hrc⟩ : ∃ y, rotr a4 25 = y := ⟨_, rfl⟩
              obtain ⟨rd, hrd⟩ : ∃ y, rotr a0 2 = y := ⟨_, rfl⟩
              obtain ⟨re, hre⟩ : ∃ y, rotr a0 13 = y := ⟨_, rfl⟩
              obtain ⟨rf, hrf⟩ : ∃ y, rotr a0 22 = y := ⟨_, rfl⟩
              rw [hra, hrb, hrc, hrd, hre, hrf] at HS0
              have Hra : Hid _ := hra
              have Hrb : Hid _ := hrb
              have Hrc : Hid _ := hrc
              have Hrd : Hid _ := hrd
              have Hre : Hid _ := hre
              have Hrf : Hid _ := hrf
              clear hra hrb hrc hrd hre hrf
              have hxa := xor_wd ra rb
              generalize ra ^^^ rb = xa at hxa HS0
              have hxb := xor_wd xa rc
              generalize xa ^^^ rc = xb at hxb HS0
              have hna := and_wd a4 a5
              generalize a4 &&& a5 = na at hna HS0
              have hnb := notw a4
              generalize ~~~a4 = nb at hnb HS0
              have hnc := and_wd nb a6
              generalize nb &&& a6 = nc at hnc HS0
              have hnd := xor_wd na nc
              generalize na ^^^ nc = nd at hnd HS0
              have hta := addw a7 xb
              generalize a7 + xb = ta at hta HS0
              have htb := addw ta nd
              generalize ta + nd = tb at htb HS0
              have htc := addw tb kk
              generalize tb + kk = tc at htc HS0
              have htd := addw tc ww
              generalize tc + ww = td at htd HS0
              have hxc := xor_wd rd re
              generalize rd ^^^ re = xc at hxc HS0
              have hxd := xor_wd xc rf
              generalize xc ^^^ rf = xd at hxd HS0
              have hma := and_wd a0 a1
              generalize a0 &&& a1 = ma at hma HS0
              have hmb := and_wd a0 a2
              generalize a0 &&& a2 = mb at hmb HS0
              have hmc := xor_wd ma mb
              generalize ma ^^^ mb = mc at hmc HS0
              have hmd := and_wd a1 a2
              generalize a1 &&& a2 = md at hmd HS0
              have hme := xor_wd mc md
              generalize mc ^^^ md = me at hme HS0
              have hua := addw td xd
              generalize td + xd = ua at hua HS0
              have hub := addw ua me
              generalize ua + me = ub at hub HS0
              have huc := addw a3 td
              generalize a3 + td = uc at huc HS0
              have HS : Hid _ := HS0
              clear HS0
              have hk0 : (0 : Int) ≤ (k : Int) := by omega
              have hk1 : (k : Int) < 64 := by omega
              go_upto_region 17 with fail
              refine wp_relies [Fx (.slice (some ⟨gx, 0, none⟩) 8 cx), Fx (.pointer (some ⟨gx, 4, none⟩)), Fx (.int .u32 (a4.toNat : Nat)), Fx (.int .u32 (ra.toNat : Nat)), Fx (.slice (some ⟨gx, 0, none⟩) 8 cx), Fx (.pointer (some ⟨gx, 4, none⟩)), Fx (.int .u32 (a4.toNat : Nat)), Fx (.int .u32 (rb.toNat : Nat)), Fx (.int .u32 (xa.toNat : Nat)), Fx (.slice (some ⟨gx, 0, none⟩) 8 cx), Fx (.pointer (some ⟨gx, 4, none⟩)), Fx (.int .u32 (a4.toNat : Nat)), Fx (.int .u32 (rc.toNat : Nat)), Fx (.int .u32 (xb.toNat : Nat)), Fx (.int .u32 (xb.toNat : Nat))] (by kernel_rfl) (by kernel_rfl) ?_ ?_ ?_
              · repeat' (first | exact all_nil | apply all_cons)
                all_goals intro v y y' hv hb
                all_goals first | exact Fx_mono _ _ _ _ hv hb | (obtain ⟨q, h1, h2⟩ := hv; exact ⟨q, h1, cell_later hb h2⟩)
              · refine ⟨?_, ?_, ?_, ?_, ?_, ?_, ?_, ?_, ?_, ?_, ?_, ?_, ?_, ?_, ?_, trivial⟩
                all_goals
                  intro ρ x hp ρc ρg ρf ho hd
                  have o11 : ρ (.tmp 11) = .slice (some ⟨gx, 0, none⟩) 8 cx := ho 11 rfl
                  clear ho
                  have p4 := cell_later hp hx4
                  simp only [depsR, depR, slotR, Fx, List.getElem?_cons_succ, List.getElem?_cons_zero, Region.binds, forall_const] at hd
                  simp only [guardR]
                  go_split_ands
                · go_simp
                · go_simp
                · go_simp
                · go_simp
                  have hz := refRot_any a4 6 x (by omega) (by omega)
                  rw [Hra.out] at hz
                  refine hz.mono ?_
                  rintro e x' ⟨rfl, hb⟩
                  exact ⟨_, rfl, rfl, hb⟩
                · go_simp
                · go_simp
                · go_simp
                · go_simp
                  have hz := refRot_any a4 11 x (by omega) (by omega)
                  rw [Hrb.out] at hz
                  refine hz.mono ?_
                  rintro e x' ⟨rfl, hb⟩
                  exact ⟨_, rfl, rfl, hb⟩
                · go_simp
                · go_simp
                · go_simp
                · go_simp
                · go_simp
                  have hz := refRot_any a4 25 x (by omega) (by omega)
                  rw [Hrc.out] at hz
                  refine hz.mono ?_
                  rintro e x' ⟨rfl, hb⟩
                  exact ⟨_, rfl, rfl, hb⟩
                · go_simp
                · go_simp
              · intro vs y1 hy1 hw
                simp only [owed, Fx] at hw
                obtain ⟨e0, e1, e2, e3, e4, e5, e6, e7, e8, e9, e10, e11, e12, e13, e14, -⟩ := hw
                simp only [List.length_cons, List.length_nil, List.take_succ_cons, List.take_nil, List.drop_succ_cons, List.drop_nil, asg, List.cons_append, List.nil_append, e0, e1, e2, e3, e4, e5, e6, e7, e8, e9, e10, e11, e12, e13, e14]
                clear e0 e1 e2 e3 e4 e5 e6 e7 e8 e9 e10 e11 e12 e13 e14
                replace hck := cell_later hy1 hck
                replace hcw := cell_later hy1 hcw
                replace hx0 := cell_later hy1 hx0
                replace hx1 := cell_later hy1 hx1
                replace hx2 := cell_later hy1 hx2
                replace hx3 := cell_later hy1 hx3
                replace hx4 := cell_later hy1 hx4
                replace hx5 := cell_later hy1 hx5
                replace hx6 := cell_later hy1 hx6
                replace hx7 := cell_later hy1 hx7
                have hBa : Below X3.heap.size X3 y1 := hB.trans (hy1.mono hB.size)
                clear hB hy1
                go_upto_region 18 with fail
                refine wp_relies [Fx (.slice (some ⟨gx, 0, none⟩) 8 cx), Fx (.pointer (some ⟨gx, 4, none⟩)), Fx (.int .u32 (a4.toNat : Nat)), Fx (.slice (some ⟨gx, 0, none⟩) 8 cx), Fx (.pointer (some ⟨gx, 5, none⟩)), Fx (.int .u32 (a5.toNat : Nat)), Fx (.int .u32 (na.toNat : Nat)), Fx (.slice (some ⟨gx, 0, none⟩) 8 cx), Fx (.pointer (some ⟨gx, 4, none⟩)), Fx (.int .u32 (a4.toNat : Nat)), Fx (.int .u32 (nb.toNat : Nat)), Fx (.slice (some ⟨gx, 0, none⟩) 8 cx), Fx (.pointer (some ⟨gx, 6, none⟩)), Fx (.int .u32 (a6.toNat : Nat)), Fx (.int .u32 (nc.toNat : Nat)), Fx (.int .u32 (nd.toNat : Nat)), Fx (.int .u32 (nd.toNat : Nat))] (by kernel_rfl) (by kernel_rfl) ?_ ?_ ?_
                · repeat' (first | exact all_nil | apply all_cons)
                  all_goals intro v y y' hv hb
                  all_goals first | exact Fx_mono _ _ _ _ hv hb | (obtain ⟨q, h1, h2⟩ := hv; exact ⟨q, h1, cell_later hb h2⟩)
                · refine ⟨?_, ?_, ?_, ?_, ?_, ?_, ?_, ?_, ?_, ?_, ?_, ?_, ?_, ?_, ?_, ?_, ?_, trivial⟩
                  all_goals
                    intro ρ x hp ρc ρg ρf ho hd
                    have o11 : ρ (.tmp 11) = .slice (some ⟨gx, 0, none⟩) 8 cx := ho 11 rfl
                    clear ho
                    have p4 := cell_later hp hx4
                    have p5 := cell_later hp hx5
                    have p6 := cell_later hp hx6
                    simp only [depsR, depR, slotR, Fx, List.getElem?_cons_succ, List.getElem?_cons_zero, Region.binds, forall_const] at hd
                    simp only [guardR]
                    go_split_ands
                  · go_simp
                  · go_simp
                  · go_simp
                  · go_simp
                  · go_simp
                  · go_simp
                  · go_simp
                  · go_simp
                  · go_simp
                  · go_simp
                  · go_simp
                  · go_simp
                  · go_simp
                  · go_simp
                  · go_simp
                  · go_simp
                  · go_simp
                · intro vs y2 hy2 hw
                  simp only [owed, Fx] at hw
                  obtain ⟨e0, e1, e2, e3, e4, e5, e6, e7, e8, e9, e10, e11, e12, e13, e14, e15, e16, -⟩ := hw
                  simp only [List.length_cons, List.length_nil, List.take_succ_cons, List.take_nil, List.drop_succ_cons, List.drop_nil, asg, List.cons_append, List.nil_append, e0, e1, e2, e3, e4, e5, e6, e7, e8, e9, e10, e11, e12, e13, e14, e15, e16]
                  clear e0 e1 e2 e3 e4 e5 e6 e7 e8 e9 e10 e11 e12 e13 e14 e15 e16
                  replace hck := cell_later hy2 hck
                  replace hcw := cell_later hy2 hcw
                  replace hx0 := cell_later hy2 hx0
                  replace hx1 := cell_later hy2 hx1
                  replace hx2 := cell_later hy2 hx2
                  replace hx3 := cell_later hy2 hx3
                  replace hx4 := cell_later hy2 hx4
                  replace hx5 := cell_later hy2 hx5
                  replace hx6 := cell_later hy2 hx6
                  replace hx7 := cell_later hy2 hx7
                  have hBb : Below X3.heap.size X3 y2 := hBa.trans (hy2.mono hBa.size)
                  clear hBa hy2
                  go_upto_region 19 with fail
                  refine wp_relies [Fx (.slice (some ⟨gx, 0, none⟩) 8 cx), Fx (.pointer (some ⟨gx, 7, none⟩)), Fx (.int .u32 (a7.toNat : Nat)), Fx (.int .u32 (xb.toNat : Nat)), Fx (.int .u32 (ta.toNat : Nat)), Fx (.int .u32 (nd.toNat : Nat)), Fx (.int .u32 (tb.toNat : Nat)), Fx (.slice (some ⟨w.heap.size, 0, none⟩) 64 64), Fx (.int .i64 (k : Nat)), Fx (.pointer (some ⟨w.heap.size, k, none⟩)), Fx (.int .u32 (kk.toNat : Nat)), Fx (.int .u32 (tc.toNat : Nat)), Fx (.slice (some ⟨gw, 0, none⟩) 64 cw), Fx (.int .i64 (k : Nat)), Fx (.pointer (some ⟨gw, k, none⟩)), Fx (.int .u32 (ww.toNat : Nat)), Fx (.int .u32 (td.toNat : Nat)), Fx (.int .u32 (td.toNat : Nat))] (by kernel_rfl) (by kernel_rfl) ?_ ?_ ?_
                  · repeat' (first | exact all_nil | apply all_cons)
                    all_goals intro v y y' hv hb
                    all_goals first | exact Fx_mono _ _ _ _ hv hb | (obtain ⟨q, h1, h2⟩ := hv; exact ⟨q, h1, cell_later hb h2⟩)
                  · refine ⟨?_, ?_, ?_, ?_, ?_, ?_, ?_, ?_, ?_, ?_, ?_, ?_, ?_, ?_, ?_, ?_, ?_, ?_, trivial⟩
                    all_goals
                      intro ρ x hp ρc ρg ρf ho hd
                      have o11 : ρ (.tmp 11) = .slice (some ⟨gx, 0, none⟩) 8 cx := ho 11 rfl
                      have o13 : ρ (.tmp 13) = .int .u32 (xb.toNat : Nat) := ho 13 rfl
                      have o14 : ρ (.tmp 14) = .int .u32 (nd.toNat : Nat) := ho 14 rfl
                      have o5 : ρ (.tmp 5) = .slice (some ⟨w.heap.size, 0, none⟩) 64 64 := ho 5 rfl
                      have o6 : ρ (.tmp 6) = .slice (some ⟨gw, 0, none⟩) 64 cw := ho 6 rfl
                      have o12 : ρ (.tmp 12) = .int .i64 (k : Nat) := ho 12 rfl
                      clear ho
                      have p7 := cell_later hp hx7
                      have pk := cell_later hp hck
                      have pw := cell_later hp hcw
                      simp only [depsR, depR, slotR, Fx, List.getElem?_cons_succ, List.getElem?_cons_zero, Region.binds, forall_const] at hd
                      simp only [guardR]
                      go_split_ands
                    · go_simp
                    · go_simp
                    · go_simp
                    · go_simp
                    · go_simp
                    · go_simp
                    · go_simp
                    · go_simp
                    · go_simp
                    · go_simp
                    · go_simp
                    · go_simp
                    · go_simp
                    · go_simp
                    · go_simp
                    · go_simp
                    · go_simp
                    · go_simp
                  · intro vs y3 hy3 hw
                    simp only [owed, Fx] at hw
                    obtain ⟨e0, e1, e2, e3, e4, e5, e6, e7, e8, e9, e10, e11, e12, e13, e14, e15, e16, e17, -⟩ := hw
                    simp only [List.length_cons, List.length_nil, List.take_succ_cons, List.take_nil, List.drop_succ_cons, List.drop_nil, asg, List.cons_append, List.nil_append, e0, e1, e2, e3, e4, e5, e6, e7, e8, e9, e10, e11, e12, e13, e14, e15, e16, e17]
                    clear e0 e1 e2 e3 e4 e5 e6 e7 e8 e9 e10 e11 e12 e13 e14 e15 e16 e17
                    clear hck hcw hx7
                    replace hx0 := cell_later hy3 hx0
                    replace hx1 := cell_later hy3 hx1
                    replace hx2 := cell_later hy3 hx2
                    replace hx3 := cell_later hy3 hx3
                    replace hx4 := cell_later hy3 hx4
                    replace hx5 := cell_later hy3 hx5
                    replace hx6 := cell_later hy3 hx6
                    have hBc : Below X3.heap.size X3 y3 := hBb.trans (hy3.mono hBb.size)
                    clear hBb hy3
                    go_upto_region 20 with fail
                    refine wp_relies [Fx (.slice (some ⟨gx, 0, none⟩) 8 cx), Fx (.pointer (some ⟨gx, 0, none⟩)), Fx (.int .u32 (a0.toNat : Nat)), Fx (.int .u32 (rd.toNat : Nat)), Fx (.slice (some ⟨gx, 0, none⟩) 8 cx), Fx (.pointer (some ⟨gx, 0, none⟩)), Fx (.int .u32 (a0.toNat : Nat)), Fx (.int .u32 (re.toNat : Nat)), Fx (.int .u32 (xc.toNat : Nat)), Fx (.slice (some ⟨gx, 0, none⟩) 8 cx), Fx (.pointer (some ⟨gx, 0, none⟩)), Fx (.int .u32 (a0.toNat : Nat)), Fx (.int .u32 (rf.toNat : Nat)), Fx (.int .u32 (xd.toNat : Nat)), Fx (.int .u32 (xd.toNat : Nat))] (by kernel_rfl) (by kernel_rfl) ?_ ?_ ?_
                    · repeat' (first | exact all_nil | apply all_cons)
                      all_goals intro v y y' hv hb
                      all_goals first | exact Fx_mono _ _ _ _ hv hb | (obtain ⟨q, h1, h2⟩ := hv; exact ⟨q, h1, cell_later hb h2⟩)
                    · refine ⟨?_, ?_, ?_, ?_, ?_, ?_, ?_, ?_, ?_, ?_, ?_, ?_, ?_, ?_, ?_, trivial⟩
                      all_goals
                        intro ρ x hp ρc ρg ρf ho hd
                        have o11 : ρ (.tmp 11) = .slice (some ⟨gx, 0, none⟩) 8 cx := ho 11 rfl
                        clear ho
                        have p0 := cell_later hp hx0
                        simp only [depsR, depR, slotR, Fx, List.getElem?_cons_succ, List.getElem?_cons_zero, Region.binds, forall_const] at hd
                        simp only [guardR]
                        go_split_ands
                      · go_simp
                      · go_simp
                      · go_simp
                      · go_simp
                        have hz := refRot_any a0 2 x (by omega) (by omega)
                        rw [Hrd.out] at hz
                        refine hz.mono ?_
                        rintro e x' ⟨rfl, hb⟩
                        exact ⟨_, rfl, rfl, hb⟩
                      · go_simp
                      · go_simp
                      · go_simp
                      · go_simp
                        have hz := refRot_any a0 13 x (by omega) (by omega)
                        rw [Hre.out] at hz
                        refine hz.mono ?_
                        rintro e x' ⟨rfl, hb⟩
                        exact ⟨_, rfl, rfl, hb⟩
                      · go_simp
                      · go_simp
                      · go_simp
                      · go_simp
                      · go_simp
                        have hz := refRot_any a0 22 x (by omega) (by omega)
                        rw [Hrf.out] at hz
                        refine hz.mono ?_
                        rintro e x' ⟨rfl, hb⟩
                        exact ⟨_, rfl, rfl, hb⟩
                      · go_simp
                      · go_simp
                    · intro vs y4 hy4 hw
                      simp only [owed, Fx] at hw
                      obtain ⟨e0, e1, e2, e3, e4, e5, e6, e7, e8, e9, e10, e11, e12, e13, e14, -⟩ := hw
                      simp only [List.length_cons, List.length_nil, List.take_succ_cons, List.take_nil, List.drop_succ_cons, List.drop_nil, asg, List.cons_append, List.nil_append, e0, e1, e2, e3, e4, e5, e6, e7, e8, e9, e10, e11, e12, e13, e14]
                      clear e0 e1 e2 e3 e4 e5 e6 e7 e8 e9 e10 e11 e12 e13 e14
                      replace hx0 := cell_later hy4 hx0
                      replace hx1 := cell_later hy4 hx1
                      replace hx2 := cell_later hy4 hx2
                      replace hx3 := cell_later hy4 hx3
                      replace hx4 := cell_later hy4 hx4
                      replace hx5 := cell_later hy4 hx5
                      replace hx6 := cell_later hy4 hx6
                      have hBd : Below X3.heap.size X3 y4 := hBc.trans (hy4.mono hBc.size)
                      clear hBc hy4
                      go_upto_region 21 with fail
                      refine wp_relies [Fx (.slice (some ⟨gx, 0, none⟩) 8 cx), Fx (.pointer (some ⟨gx, 0, none⟩)), Fx (.int .u32 (a0.toNat : Nat)), Fx (.slice (some ⟨gx, 0, none⟩) 8 cx), Fx (.pointer (some ⟨gx, 1, none⟩)), Fx (.int .u32 (a1.toNat : Nat)), Fx (.int .u32 (ma.toNat : Nat)), Fx (.slice (some ⟨gx, 0, none⟩) 8 cx), Fx (.pointer (some ⟨gx, 0, none⟩)), Fx (.int .u32 (a0.toNat : Nat)), Fx (.slice (some ⟨gx, 0, none⟩) 8 cx), Fx (.pointer (some ⟨gx, 2, none⟩)), Fx (.int .u32 (a2.toNat : Nat)), Fx (.int .u32 (mb.toNat : Nat)), Fx (.int .u32 (mc.toNat : Nat)), Fx (.slice (some ⟨gx, 0, none⟩) 8 cx), Fx (.pointer (some ⟨gx, 1, none⟩)), Fx (.int .u32 (a1.toNat : Nat)), Fx (.slice (some ⟨gx, 0, none⟩) 8 cx), Fx (.pointer (some ⟨gx, 2, none⟩)), Fx (.int .u32 (a2.toNat : Nat)), Fx (.int .u32 (md.toNat : Nat)), Fx (.int .u32 (me.toNat : Nat)), Fx (.int .u32 (me.toNat : Nat))] (by kernel_rfl) (by kernel_rfl) ?_ ?_ ?_
                      · repeat' (first | exact all_nil | apply all_cons)
                        all_goals intro v y y' hv hb
                        all_goals first | exact Fx_mono _ _ _ _ hv hb | (obtain ⟨q, h1, h2⟩ := hv; exact ⟨q, h1, cell_later hb h2⟩)
                      · refine ⟨?_, ?_, ?_, ?_, ?_, ?_, ?_, ?_, ?_, ?_, ?_, ?_, ?_, ?_, ?_, ?_, ?_, ?_, ?_, ?_, ?_, ?_, ?_, ?_, trivial⟩
                        all_goals
                          intro ρ x hp ρc ρg ρf ho hd
                          have o11 : ρ (.tmp 11) = .slice (some ⟨gx, 0, none⟩) 8 cx := ho 11 rfl
                          clear ho
                          have p0 := cell_later hp hx0
                          have p1 := cell_later hp hx1
                          have p2 := cell_later hp hx2
                          simp only [depsR, depR, slotR, Fx, List.getElem?_cons_succ, List.getElem?_cons_zero, Region.binds, forall_const] at hd
                          simp only [guardR]
                          go_split_ands
                        · go_simp
                        · go_simp
                        · go_simp
                        · go_simp
                        · go_simp
                        · go_simp
                        · go_simp
                        · go_simp
                        · go_simp
                        · go_simp
                        · go_simp
                        · go_simp
                        · go_simp
                        · go_simp
                        · go_simp
                        · go_simp
                        · go_simp
                        · go_simp
                        · go_simp
                        · go_simp
                        · go_simp
                        · go_simp
                        · go_simp
                        · go_simp
                      · intro vs y5 hy5 hw
                        simp only [owed, Fx] at hw
                        obtain ⟨e0, e1, e2, e3, e4, e5, e6, e7, e8, e9, e10, e11, e12, e13, e14, e15, e16, e17, e18, e19, e20, e21, e22, e23, -⟩ := hw
                        simp only [List.length_cons, List.length_nil, List.take_succ_cons, List.take_nil, List.drop_succ_cons, List.drop_nil, asg, List.cons_append, List.nil_append, e0, e1, e2, e3, e4, e5, e6, e7, e8, e9, e10, e11, e12, e13, e14, e15, e16, e17, e18, e19, e20, e21, e22, e23]
                        clear e0 e1 e2 e3 e4 e5 e6 e7 e8 e9 e10 e11 e12 e13 e14 e15 e16 e17 e18 e19 e20 e21 e22 e23
                        replace hx0 := cell_later hy5 hx0
                        replace hx1 := cell_later hy5 hx1
                        replace hx2 := cell_later hy5 hx2
                        replace hx3 := cell_later hy5 hx3
                        replace hx4 := cell_later hy5 hx4
                        replace hx5 := cell_later hy5 hx5
                        replace hx6 := cell_later hy5 hx6
                        have hBe : Below X3.heap.size X3 y5 := hBd.trans (hy5.mono hBd.size)
                        clear hBd hy5
                        go_upto_region 22 with fail
                        refine wp_reliesT [Fx (.int .u32 (td.toNat : Nat)), Fx (.int .u32 (xd.toNat : Nat)), Fx (.int .u32 (ua.toNat : Nat)), Fx (.int .u32 (me.toNat : Nat)), Fx (.int .u32 (ub.toNat : Nat)), Fx (.slice (some ⟨gx, 0, none⟩) 8 cx), Fx (.pointer (some ⟨gx, 0, none⟩)), Fx (.int .u32 (a0.toNat : Nat)), Fx (.slice (some ⟨gx, 0, none⟩) 8 cx), Fx (.pointer (some ⟨gx, 1, none⟩)), Fx (.int .u32 (a1.toNat : Nat)), Fx (.slice (some ⟨gx, 0, none⟩) 8 cx), Fx (.pointer (some ⟨gx, 2, none⟩)), Fx (.int .u32 (a2.toNat : Nat)), Fx (.slice (some ⟨gx, 0, none⟩) 8 cx), Fx (.pointer (some ⟨gx, 3, none⟩)), Fx (.int .u32 (a3.toNat : Nat)), Fx (.int .u32 (td.toNat : Nat)), Fx (.int .u32 (uc.toNat : Nat)), Fx (.slice (some ⟨gx, 0, none⟩) 8 cx), Fx (.pointer (some ⟨gx, 4, none⟩)), Fx (.int .u32 (a4.toNat : Nat)), Fx (.slice (some ⟨gx, 0, none⟩) 8 cx), Fx (.pointer (some ⟨gx, 5, none⟩)), Fx (.int .u32 (a5.toNat : Nat)), Fx (.slice (some ⟨gx, 0, none⟩) 8 cx), Fx (.pointer (some ⟨gx, 6, none⟩)), Fx (.int .u32 (a6.toNat : Nat)), fun v x => ∃ q, v = .slice (some ⟨q, 0, none⟩) 8 8 ∧ OwnG 42 x X.heap.size (.slice (some ⟨q, 0, none⟩) 8 8) [Value.int .u32 ((ub.toNat : Nat) : Int), Value.int .u32 ((a0.toNat : Nat) : Int), Value.int .u32 ((a1.toNat : Nat) : Int), Value.int .u32 ((a2.toNat : Nat) : Int), Value.int .u32 ((uc.toNat : Nat) : Int), Value.int .u32 ((a4.toNat : Nat) : Int), Value.int .u32 ((a5.toNat : Nat) : Int), Value.int .u32 ((a6.toNat : Nat) : Int)]] (by kernel_rfl) (by kernel_rfl) ?_ ?_ ?_
                        · repeat' (first | exact all_nil | apply all_cons)
                          all_goals intro v y y' hv hb
                          all_goals first | exact Fx_mono _ _ _ _ hv hb | (obtain ⟨q, h1, h2⟩ := hv; exact ⟨q, h1, OwnG.keep h2 hb⟩)
                        · refine ⟨?_, ?_, ?_, ?_, ?_, ?_, ?_, ?_, ?_, ?_, ?_, ?_, ?_, ?_, ?_, ?_, ?_, ?_, ?_, ?_, ?_, ?_, ?_, ?_, ?_, ?_, ?_, ?_, ?_, trivial⟩
                          all_goals
                            intro ρ x hp ρc ρg ρf ho hd
                            have o11 : ρ (.tmp 11) = .slice (some ⟨gx, 0, none⟩) 8 cx := ho 11 rfl
                            have o15 : ρ (.tmp 15) = .int .u32 (td.toNat : Nat) := ho 15 rfl
                            have o16 : ρ (.tmp 16) = .int .u32 (xd.toNat : Nat) := ho 16 rfl
                            have o17 : ρ (.tmp 17) = .int .u32 (me.toNat : Nat) := ho 17 rfl
                            clear ho
                            have p0 := cell_later hp hx0
                            have p1 := cell_later hp hx1
                            have p2 := cell_later hp hx2
                            have p3 := cell_later hp hx3
                            have p4 := cell_later hp hx4
                            have p5 := cell_later hp hx5
                            have p6 := cell_later hp hx6
                            have hxx : X.heap.size ≤ x.heap.size := Nat.le_trans (Nat.le_trans hs3 hBe.size) hp.size
                            simp only [depsR, depR, slotR, Fx, List.getElem?_cons_succ, List.getElem?_cons_zero, Region.binds, forall_const] at hd
                            simp only [guardR]
                            go_split_ands
                          · go_simp
                          · go_simp
                          · go_simp
                          · go_simp
                          · go_simp
                          · go_simp
                          · go_simp
                          · go_simp
                          · go_simp
                          · go_simp
                          · go_simp
                          · go_simp
                          · go_simp
                          · go_simp
                          · go_simp
                          · go_simp
                          · go_simp
                          · go_simp
                          · go_simp
                          · go_simp
                          · go_simp
                          · go_simp
                          · go_simp
                          · go_simp
                          · go_simp
                          · go_simp
                          · go_simp
                          · go_simp
                          · go_simp
                            exact ⟨(OwnG.lit _ x [Value.int .u32 ((ub.toNat : Nat) : Int), Value.int .u32 ((a0.toNat : Nat) : Int), Value.int .u32 ((a1.toNat : Nat) : Int), Value.int .u32 ((a2.toNat : Nat) : Int), Value.int .u32 ((uc.toNat : Nat) : Int), Value.int .u32 ((a4.toNat : Nat) : Int), Value.int .u32 ((a5.toNat : Nat) : Int), Value.int .u32 ((a6.toNat : Nat) : Int)] (by unfold maxLen; simp)).le (by omega), below_alloc _ _⟩
                        · intro vs y6 hy6 hw
                          simp only [owed, Fx] at hw
                          obtain ⟨e0, e1, e2, e3, e4, e5, e6, e7, e8, e9, e10, e11, e12, e13, e14, e15, e16, e17, e18, e19, e20, e21, e22, e23, e24, e25, e26, e27, ⟨q, e28, hq⟩, -⟩ := hw
                          simp only [List.length_cons, List.length_nil, List.take_succ_cons, List.take_zero, List.drop_succ_cons, List.drop_zero, asg, List.cons_append, List.nil_append, e0, e1, e2, e3, e4, e5, e6, e7, e8, e9, e10, e11, e12, e13, e14, e15, e16, e17, e18, e19, e20, e21, e22, e23, e24, e25, e26, e27, e28]
                          clear e0 e1 e2 e3 e4 e5 e6 e7 e8 e9 e10 e11 e12 e13 e14 e15 e16 e17 e18 e19 e20 e21 e22 e23 e24 e25 e26 e27 e28
                          have HO : Hid (OwnG 42 y6 X.heap.size (.slice (some ⟨q, 0, none⟩) 8 8) (wsV (rndN (sched l 64) (k + 1) st).toL)) := by show OwnG _ _ _ _ _; rw [HS.out]; exact hq
                          have HB : Hid (Below X3.heap.size X3 y6) := hBe.trans (hy6.mono hBe.size)
                          clear hBe hy6 hq
                          go_wp2
                          go_roundw
                          case rel => first | exact ⟨k + 1, by omega, by go_num, HO.out, HB.out⟩ | ((repeat apply Exists.intro); refine ⟨⟨k + 1, by omega, ?_, HO.out, HB.out⟩, rfl⟩; go_num)
                          case measure => simp [intOf]; omega
            · obtain rfl : k = 64 := by omega
              have hBw : Below X.heap.size X wr := hB3.trans (hB.mono hs3)
              have hcs4 : ∀ j, j < 8 → wr.cell? ⟨bs, os + j, none⟩ = some (.int .u32 ((wAt st.toL j).toNat : Nat)) := fun j hj => cell_later hB (hcs3 j hj)
              have hbsw : bs < wr.heap.size := by have := hBw.size; have := hBX.size; omega
              have hbg : bs ≠ gx := by omega
              obtain ⟨S, hS⟩ : ∃ S, rndN (sched l 64) 64 st = S := ⟨_, rfl⟩
              rw [hS] at hO
              have HF : Hid ((S.add st).toL = (stepB st l).toL) := by show _ = _; rw [← hS]; rfl
              clear hS hck3 hcw3 hcs3 hB
              go_wp2_with fail
              go_loopw [18] (fun i w5 => ∃ k : Nat, k ≤ 8 ∧ i = .int .i64 k ∧ OwnG 42 w5 X.heap.size (.slice (some ⟨gx, 0, none⟩) 8 cx) (wsV (addN S.toL st.toL k)) ∧ (∀ j, j < 8 → w5.cell? ⟨bs, os + j, none⟩ = some (.int .u32 ((wAt st.toL j).toNat : Nat))) ∧ Below X.heap.size X w5) (fun i _ => 8 - (intOf i).toNat)
              case atStart => exact ⟨0, by omega, rfl, hO, hcs4, hBw⟩
              case round =>
                clear hO hcs4 hBw
                obtain ⟨k, hk, rfl, hO, hcs4, hB⟩ := hrel
                by_cases hlt : k < 8
                · have hcx : wr.cell? ⟨gx, k, none⟩ = some (.int .u32 ((wAt S.toL k).toNat : Nat)) := by
                    have := hO.cell k _ (wsV_get (addN S.toL st.toL k) k (by rw [addN_len S.toL st.toL k (show S.toL.length = st.toL.length from rfl) (show k ≤ 8 from hk)]; exact hlt))
                    rw [addN_get S.toL st.toL k hlt (show k ≤ 8 from hk)] at this
                    exact this
                  have hcs := hcs4 k hlt
                  have HS0 := addN_succ S.toL st.toL k hlt hlt
                  have hadd := addw (wAt S.toL k) (wAt st.toL k)
                  generalize wAt S.toL k + wAt st.toL k = sw at hadd HS0
                  generalize wAt S.toL k = sv at hcx hadd
                  generalize wAt st.toL k = tv at hcs hadd
                  have HS : Hid _ := HS0
                  clear HS0
                  have hk0 : (0 : Int) ≤ (k : Int) := by omega
                  have hk1 : (k : Int) < 8 := by omega
                  go_upto_region 26 with fail
                  refine wp_reliesT [Fx (.slice (some ⟨gx, 0, none⟩) 8 cx), Fx (.int .i64 (k : Nat)), Fx (.slice (some ⟨gx, 0, none⟩) 8 cx), Fx (.int .i64 (k : Nat)), Fx (.pointer (some ⟨gx, k, none⟩)), Fx (.int .u32 (sv.toNat : Nat)), Fx (.slice (some ⟨bs, os, none⟩) 8 cs), Fx (.int .i64 (k : Nat)), Fx (.pointer (some ⟨bs, os + k, none⟩)), Fx (.int .u32 (tv.toNat : Nat)), Fx (.int .u32 (sw.toNat : Nat)), Fx (.pointer (some ⟨gx, k, none⟩))] (by kernel_rfl) (by kernel_rfl) ?_ ?_ ?_
                  · repeat' (first | exact all_nil | apply all_cons)
                    all_goals intro v y y' hv hb
                    all_goals first | exact Fx_mono _ _ _ _ hv hb | (obtain ⟨q, h1, h2⟩ := hv; exact ⟨q, h1, cell_later hb h2⟩)
                  · refine ⟨?_, ?_, ?_, ?_, ?_, ?_, ?_, ?_, ?_, ?_, ?_, ?_, trivial⟩
                    all_goals
                      intro ρ x hp ρc ρg ρf ho hd
                      have o11 : ρ (.tmp 11) = .slice (some ⟨gx, 0, none⟩) 8 cx := ho 11 rfl
                      have o0 : ρ (.tmp 0) = .slice (some ⟨bs, os, none⟩) 8 cs := ho 0 rfl
                      have o18 : ρ (.tmp 18) = .int .i64 (k : Nat) := ho 18 rfl
                      clear ho
                      have p1 := cell_later hp hcx
                      have p2 := cell_later hp hcs
                      simp only [depsR, depR, slotR, Fx, List.getElem?_cons_succ, List.getElem?_cons_zero, Region.binds, forall_const] at hd
                      simp only [guardR]
                      go_split_ands
                    · go_simp
                    · go_simp
                    · go_simp
                    · go_simp
                    · go_simp
                    · go_simp
                    · go_simp
                    · go_simp
                    · go_simp
                    · go_simp
                    · go_simp
                    · go_simp
                  · intro vs z1 hz1 hw
                    simp only [owed, Fx] at hw
                    obtain ⟨e0, e1, e2, e3, e4, e5, e6, e7, e8, e9, e10, e11, -⟩ := hw
                    simp only [List.length_cons, List.length_nil, List.take_succ_cons, List.take_zero, List.drop_succ_cons, List.drop_zero, asg, List.cons_append, List.nil_append, e0, e1, e2, e3, e4, e5, e6, e7, e8, e9, e10, e11]
                    clear e0 e1 e2 e3 e4 e5 e6 e7 e8 e9 e10 e11
                    obtain ⟨hO5, hG5⟩ := (hO.keep hz1).put k (.int .u32 ((sw.toNat : Nat) : Int))
                    have hcz := cell_later hz1 hcx
                    have hfz := (hO.keep hz1).frozen k
                    have HO : Hid (OwnG 42 (z1.setCell ⟨gx, k, none⟩ (.int .u32 ((sw.toNat : Nat) : Int))) X.heap.size (.slice (some ⟨gx, 0, none⟩) 8 cx) (wsV (addN S.toL st.toL (k + 1)))) := by show OwnG _ _ _ _ _; rw [HS.out, wsV_set]; exact hO5
                    have HC : Hid (∀ j, j < 8 → (z1.setCell ⟨gx, k, none⟩ (.int .u32 ((sw.toNat : Nat) : Int))).cell? ⟨bs, os + j, none⟩ = some (.int .u32 ((wAt st.toL j).toNat : Nat))) := fun j hj => by
                      have hne := addr_ne (k := k) (o := os + j) hbg
                      rw [World.cell?_setCell_other (h := hne)]; exact cell_later hz1 (hcs4 j hj)
                    have HB : Hid (Below X.heap.size X (z1.setCell ⟨gx, k, none⟩ (.int .u32 ((sw.toNat : Nat) : Int)))) := (hB.trans (hz1.mono hB.size)).setCell hgx _
                    clear hO hB hcs4 hO5 hG5 hz1 hcx hcs
                    go_wp2
                    go_roundw
                    case rel => first | exact ⟨k + 1, by omega, by go_num, HO.out, HC.out, HB.out⟩ | ((repeat apply Exists.intro); refine ⟨⟨k + 1, by omega, ?_, HO.out, HC.out, HB.out⟩, rfl⟩; go_num)
                    case measure => simp [intOf]; omega
                · obtain rfl : k = 8 := by omega
                  rw [addN_all, HF.out] at hO
                  go_wp2
                  go_ret
                  exact ⟨gx, cx, rfl, hO.le (by omega), hBX.trans (hB.mono hBX.size)⟩
end Go.Proofs.Ytajmlfcbppnpgaa
