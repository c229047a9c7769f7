
import Derived.Test.YtajmlfcbppnpgaaSha3
namespace Go.Proofs.Ytajmlfcbppnpgaa
open Go.RowKit

theorem notx (x : Wd) : bits .xor .u32 4294967295 (x.toNat : Int) = ((~~~x).toNat : Int) := by
  have h := xor_wd (BitVec.allOnes 32) x
  rw [BitVec.allOnes_xor] at h
  exact h
theorem kL_len : kL.length = 64 := by unfold kL; simp
theorem S8_at (s : S8) : wAt s.toL 0 = s.a ∧ wAt s.toL 1 = s.b ∧ wAt s.toL 2 = s.c ∧ wAt s.toL 3 = s.d ∧ wAt s.toL 4 = s.e ∧ wAt s.toL 5 = s.f ∧ wAt s.toL 6 = s.g ∧ wAt s.toL 7 = s.h := ⟨rfl, rfl, rfl, rfl, rfl, rfl, rfl, rfl⟩
theorem lit8 (s : S8) : (#[Value.int .u32 ((s.a.toNat : Nat) : Int), .int .u32 ((s.b.toNat : Nat) : Int), .int .u32 ((s.c.toNat : Nat) : Int), .int .u32 ((s.d.toNat : Nat) : Int), .int .u32 ((s.e.toNat : Nat) : Int), .int .u32 ((s.f.toNat : Nat) : Int), .int .u32 ((s.g.toNat : Nat) : Int), .int .u32 ((s.h.toNat : Nat) : Int)] : Array Value) = wdA s.toL := rfl
set_option linter.unusedSimpArgs false in
set_option maxRecDepth 100000 in
set_option maxHeartbeats 1600000 in
theorem shaStep_any (st : S8) (b : Nat → UInt8) (w : World) :
    Calls Try.prog 16 #[.agg (wdA st.toL), .agg (secA b)] w fun e w' => e = .returned (.agg (wdA (stepB st (secB b)).toL)) ∧ Below w.heap.size w w' := by
  have hk64 := kL_len
  go_enter Try.func16, Try.ntmps16
  go_wp2_with fail
  have hB : Below w.heap.size w (((w.alloc (.cells (wdA st.toL) 44)).alloc (.cells (secA b) 46)).alloc (.cells (wdA zW8) 44)) := ((below_alloc w _).alloc (by simp) _).alloc (by simp; omega) _
  have hR1 : RowC (((w.alloc (.cells (wdA st.toL) 44)).alloc (.cells (secA b) 46)).alloc (.cells (wdA zW8) 44)) w.heap.size (wdA st.toL) := ((RowC.new w (wdA st.toL) _).kept (below_alloc _ _)).kept (below_alloc _ _)
  have hR2 : RowC (((w.alloc (.cells (wdA st.toL) 44)).alloc (.cells (secA b) 46)).alloc (.cells (wdA zW8) 44)) (w.heap.size + 1) (secA b) := by
    have := (RowC.new (w.alloc (.cells (wdA st.toL) 44)) (secA b) 46).kept (below_alloc _ (.cells (wdA zW8) 44))
    rw [World.size_alloc] at this
    exact this
  have hR3 : RowC (((w.alloc (.cells (wdA st.toL) 44)).alloc (.cells (secA b) 46)).alloc (.cells (wdA zW8) 44)) (w.heap.size + 1 + 1) (wdA zW8) := by
    have := RowC.new ((w.alloc (.cells (wdA st.toL) 44)).alloc (.cells (secA b) 46)) (wdA zW8) 44
    rw [World.size_alloc, World.size_alloc] at this
    exact this
  obtain ⟨g3, hg3⟩ : ∃ g, w.heap.size + 1 = g := ⟨_, rfl⟩
  obtain ⟨g4, hg4⟩ : ∃ g, g3 + 1 = g := ⟨_, rfl⟩
  rw [hg3] at hR2
  rw [hg3, hg4] at hR3
  have l4 : w.heap.size ≤ g4 := by omega
  simp only [hg3, hg4]
  generalize ((w.alloc (.cells (wdA st.toL) 44)).alloc (.cells (secA b) 46)).alloc (.cells (wdA zW8) 44) = Y at hB hR1 hR2 hR3 ⊢
  clear hg3 hg4
  refine (shaConsts_any _).mono ?_
  rintro e X ⟨rfl, hX⟩
  replace hR1 := hR1.kept hX
  replace hR2 := hR2.kept hX
  replace hR3 := hR3.kept hX
  have hBX : Below w.heap.size w X := hB.trans (hX.mono hB.size)
  have hRk : RowC (X.alloc (.cells (wdA kL) 55)) X.heap.size (wdA kL) := RowC.new _ _ _
  have hl2 := hR2.lt
  obtain ⟨r2, q2⟩ := hR2
  clear hB hX
  go_wp2_with fail
  have hBX1 : Below w.heap.size w (X.alloc (.cells (wdA kL) 55)) := hBX.alloc hBX.size _
  replace hR1 := hR1.kept (below_alloc X (.cells (wdA kL) 55))
  replace hR3 := hR3.kept (below_alloc X (.cells (wdA kL) 55))
  clear r2 q2 hl2 hBX
  generalize X.heap.size = gk at hRk ⊢
  generalize X.alloc (.cells (wdA kL) 55) = X1 at hRk hBX1 hR1 hR3 ⊢
  refine (shaSched_any b _).mono ?_
  rintro e X2 ⟨rfl, hX2⟩
  have hT64 := sched_length (secB b) 64
  obtain ⟨T, hT⟩ : ∃ T, sched (secB b) 64 = T := ⟨_, rfl⟩
  rw [hT] at hT64 ⊢
  replace hR1 := hR1.kept hX2
  replace hR3 := hR3.kept hX2
  replace hRk := hRk.kept hX2
  have hBX2 : Below w.heap.size w X2 := hBX1.trans (hX2.mono hBX1.size)
  have hRw : RowC (X2.alloc (.cells (wdA T) 55)) X2.heap.size (wdA T) := RowC.new _ _ _
  clear hX2 hBX1
  go_upto_region 3 with fail
  have hBX3 : Below w.heap.size w (X2.alloc (.cells (wdA T) 55)) := hBX2.alloc hBX2.size _
  replace hR1 := hR1.kept (below_alloc X2 (.cells (wdA T) 55))
  replace hR3 := hR3.kept (below_alloc X2 (.cells (wdA T) 55))
  replace hRk := hRk.kept (below_alloc X2 (.cells (wdA T) 55))
  clear hBX2
  generalize X2.heap.size = gw at hRw ⊢
  generalize X2.alloc (.cells (wdA T) 55) = X3 at hRw hBX3 hR1 hR3 hRk ⊢
  have cs : ∀ j, j < 8 → X3.cell? ⟨w.heap.size, j, none⟩ = some (.int .u32 ((wAt st.toL j).toNat : Nat)) := fun j hj => by rw [hR1.cell j, wdA_get _ j (by rw [toL_length]; exact hj)]
  obtain ⟨at0, at1, at2, at3, at4, at5, at6, at7⟩ := S8_at st
  have s0 := cs 0 (by omega)
  have s1 := cs 1 (by omega)
  have s2 := cs 2 (by omega)
  have s3 := cs 3 (by omega)
  have s4 := cs 4 (by omega)
  have s5 := cs 5 (by omega)
  have s6 := cs 6 (by omega)
  have s7 := cs 7 (by omega)
  rw [at0] at s0
  rw [at1] at s1
  rw [at2] at s2
  rw [at3] at s3
  rw [at4] at s4
  rw [at5] at s5
  rw [at6] at s6
  rw [at7] at s7
  clear at0 at1 at2 at3 at4 at5 at6 at7 cs
  go_quiet (fail)
  clear s0 s1 s2 s3 s4 s5 s6 s7
  obtain ⟨X4, hy, hyB⟩ : ∃ y, X3.drewN nq = y ∧ Below X3.heap.size X3 y := ⟨_, rfl, below_drewN (Below.refl _ _) _⟩
  rw [hy]
  clear hy
  replace hR1 := hR1.kept hyB
  replace hR3 := hR3.kept hyB
  replace hRk := hRk.kept hyB
  replace hRw := hRw.kept hyB
  have hBX4 : Below w.heap.size w X4 := hBX3.trans (hyB.mono hBX3.size)
  clear hyB hBX3
  go_wp2_with fail
  go_loopw [7, 8, 9, 10, 11, 12, 13, 14, 39] (fun va vb vc vd ve vf vg vh i wr => ∃ k : Nat, k ≤ 64 ∧ i = .int .i64 k ∧ va = .int .u32 ((rndN T k st).a.toNat : Nat) ∧ vb = .int .u32 ((rndN T k st).b.toNat : Nat) ∧ vc = .int .u32 ((rndN T k st).c.toNat : Nat) ∧ vd = .int .u32 ((rndN T k st).d.toNat : Nat) ∧ ve = .int .u32 ((rndN T k st).e.toNat : Nat) ∧ vf = .int .u32 ((rndN T k st).f.toNat : Nat) ∧ vg = .int .u32 ((rndN T k st).g.toNat : Nat) ∧ vh = .int .u32 ((rndN T k st).h.toNat : Nat) ∧ Below X4.heap.size X4 wr) (fun _ _ _ _ _ _ _ _ i _ => 64 - (intOf i).toNat)
  case atStart => exact ⟨0, by omega, rfl, rfl, rfl, rfl, rfl, rfl, rfl, rfl, rfl, Below.refl _ _⟩
  case round =>
    obtain ⟨k, hk, rfl, rfl, rfl, rfl, rfl, rfl, rfl, rfl, rfl, hB⟩ := hrel
    by_cases hlt : k < 64
    · have HS0 : rndN T (k + 1) st = rnd (wAt kL k) (wAt T k) (rndN T k st) := rfl
      have hck : X4.cell? ⟨gk, k, none⟩ = some (.int .u32 ((wAt kL k).toNat : Nat)) := by rw [hRk.cell k, wdA_get _ k (by rw [hk64]; exact hlt)]
      have hcw : X4.cell? ⟨gw, k, none⟩ = some (.int .u32 ((wAt T k).toNat : Nat)) := by rw [hRw.cell k, wdA_get _ k (by rw [hT64]; exact hlt)]
      replace hck := cell_later hB hck
      replace hcw := cell_later hB hcw
      generalize wAt kL k = kk at HS0 hck
      generalize wAt T k = ww at HS0 hcw
      generalize rndN T k st = s0 at HS0 ⊢
      obtain ⟨a0, a1, a2, a3, a4, a5, a6, a7⟩ := s0
      simp only at HS0 ⊢
      replace HS0 : rndN T (k + 1) st = ⟨(((a7 + bg1 a4) + chW a4 a5 a6) + kk + ww) + (bg0 a0 + majW a0 a1 a2), a0, a1, a2, a3 + (((a7 + bg1 a4) + chW a4 a5 a6) + kk + ww), a4, a5, a6⟩ := by rw [HS0, rnd]; simp only [S8.mk.injEq, and_true]; rw [BitVec.add_assoc]
      unfold bg1 bg0 chW majW at HS0
      obtain ⟨ra, hra⟩ : ∃ y, rotr a4 6 = y := ⟨_, rfl⟩
      obtain ⟨rb, hrb⟩ : ∃ y, rotr a4 11 = y := ⟨_, rfl⟩
      obtain ⟨rc, hrc⟩ : ∃ y, rotr a4 25 = y := ⟨_, rfl⟩
      obtain ⟨rd, hrd⟩ : ∃ y, rotr a0 2 = y := ⟨_, rfl⟩
      obtain ⟨re, hre⟩ : ∃ y, rotr a0 13 = y := ⟨_, rfl⟩
      obtain ⟨rf, hrf⟩ : ∃ y, rotr a0 22 = y := ⟨_, rfl⟩
      rw [hra, hrb, hrc, hrd, hre, hrf] at HS0
      have Hra : Hid _ := hra
      have Hrb : Hid _ := hrb
      have Hrc : Hid _ := hrc
      have Hrd : Hid _ := hrd
      have Hre : Hid _ := hre
      have Hrf : Hid _ := hrf
      clear hra hrb hrc hrd hre hrf
      have hxa := xor_wd ra rb
      generalize ra ^^^ rb = xa at hxa HS0
      have hxb := xor_wd xa rc
      generalize xa ^^^ rc = xb at hxb HS0
      have hna := and_wd a4 a5
      generalize a4 &&& a5 = na at hna HS0
      have hnb := notx a4
      generalize ~~~a4 = nb at hnb HS0
      have hnc := and_wd nb a6
      generalize nb &&& a6 = nc at hnc HS0
      have hnd := xor_wd na nc
      generalize na ^^^ nc = nd at hnd HS0
      have hta := addw a7 xb
      generalize a7 + xb = ta at hta HS0
      have htb := addw ta nd
      generalize ta + nd = tb at htb HS0
      have htc := addw tb kk
      generalize tb + kk = tc at htc HS0
      have htd := addw tc ww
      generalize tc + ww = td at htd HS0
      have hxc := xor_wd rd re
      generalize rd ^^^ re = xc at hxc HS0
      have hxd := xor_wd xc rf
      generalize xc ^^^ rf = xd at hxd HS0
      have hma := and_wd a0 a1
      generalize a0 &&& a1 = ma at hma HS0
      have hmb := and_wd a0 a2
      generalize a0 &&& a2 = mb at hmb HS0
      have hmc := xor_wd ma mb
      generalize ma ^^^ mb = mc at hmc HS0
      have hmd := and_wd a1 a2
      generalize a1 &&& a2 = md at hmd HS0
      have hme := xor_wd mc md
      generalize mc ^^^ md = me at hme HS0
      have hua := addw xd me
      generalize xd + me = ua at hua HS0
      have hub := addw td ua
      generalize td + ua = ub at hub HS0
      have huc := addw a3 td
      generalize a3 + td = uc at huc HS0
      have HS : Hid _ := HS0
      clear HS0
      have hk0 : (0 : Int) ≤ (k : Int) := by omega
      have hk1 : (k : Int) < 64 := by omega
      have HR1 : Hid _ := hR1
      have HR3 : Hid _ := hR3
      have HRk : Hid _ := hRk
      have HRw : Hid _ := hRw
      clear hR1 hR3 hRk hRw hT
      go_upto_region 7 with fail
      refine wp_relies [Fx (.int .u32 (a7.toNat : Nat)), Fx (.int .u32 (a4.toNat : Nat)), Fx (.int .u32 (ra.toNat : Nat)), Fx (.int .u32 (a4.toNat : Nat)), Fx (.int .u32 (rb.toNat : Nat)), Fx (.int .u32 (xa.toNat : Nat)), Fx (.int .u32 (a4.toNat : Nat)), Fx (.int .u32 (rc.toNat : Nat)), Fx (.int .u32 (xb.toNat : Nat)), Fx (.int .u32 (ta.toNat : Nat)), Fx (.int .u32 (a4.toNat : Nat)), Fx (.int .u32 (a5.toNat : Nat)), Fx (.int .u32 (na.toNat : Nat)), Fx (.int .u32 (a4.toNat : Nat)), Fx (.int .u32 (nb.toNat : Nat)), Fx (.int .u32 (a6.toNat : Nat)), Fx (.int .u32 (nc.toNat : Nat)), Fx (.int .u32 (nd.toNat : Nat)), Fx (.int .u32 (tb.toNat : Nat)), Fx (.int .i64 (k : Nat)), Fx (.pointer (some ⟨gk, k, none⟩)), Fx (.int .u32 (kk.toNat : Nat)), Fx (.int .u32 (tc.toNat : Nat)), Fx (.int .i64 (k : Nat)), Fx (.pointer (some ⟨gw, k, none⟩)), Fx (.int .u32 (ww.toNat : Nat)), Fx (.int .u32 (td.toNat : Nat)), Fx (.int .u32 (td.toNat : Nat))] (by kernel_rfl) (by kernel_rfl) ?_ ?_ ?_
      · repeat' (first | exact all_nil | apply all_cons)
        all_goals intro v y y' hv hb
        all_goals first | exact Fx_mono _ _ _ _ hv hb
      · refine ⟨?_, ?_, ?_, ?_, ?_, ?_, ?_, ?_, ?_, ?_, ?_, ?_, ?_, ?_, ?_, ?_, ?_, ?_, ?_, ?_, ?_, ?_, ?_, ?_, ?_, ?_, ?_, ?_, trivial⟩
        all_goals
          intro ρ x hp ρc ρg ρf ho hd
          have o5 : ρ (.tmp 5) = .pointer (some ⟨gk, 0, none⟩) := ho 5 rfl
          have o6 : ρ (.tmp 6) = .pointer (some ⟨gw, 0, none⟩) := ho 6 rfl
          have o11 : ρ (.tmp 11) = .int .u32 (a4.toNat : Nat) := ho 11 rfl
          have o12 : ρ (.tmp 12) = .int .u32 (a5.toNat : Nat) := ho 12 rfl
          have o13 : ρ (.tmp 13) = .int .u32 (a6.toNat : Nat) := ho 13 rfl
          have o14 : ρ (.tmp 14) = .int .u32 (a7.toNat : Nat) := ho 14 rfl
          have o15 : ρ (.tmp 15) = .int .i64 (k : Nat) := ho 15 rfl
          clear ho
          have pk := cell_later hp hck
          have pw := cell_later hp hcw
          simp only [depsR, depR, slotR, Fx, List.getElem?_cons_succ, List.getElem?_cons_zero, Region.binds, forall_const] at hd
          simp only [guardR]
          go_split_ands
        · go_simp
        · go_simp
        · go_simp
          have hz := shaRot_any a4 6 x (by omega) (by omega)
          rw [Hra.out] at hz
          refine hz.mono ?_
          rintro e x' ⟨rfl, hb⟩
          exact ⟨_, rfl, rfl, hb⟩
        · go_simp
        · go_simp
          have hz := shaRot_any a4 11 x (by omega) (by omega)
          rw [Hrb.out] at hz
          refine hz.mono ?_
          rintro e x' ⟨rfl, hb⟩
          exact ⟨_, rfl, rfl, hb⟩
        · go_simp
        · go_simp
        · go_simp
          have hz := shaRot_any a4 25 x (by omega) (by omega)
          rw [Hrc.out] at hz
          refine hz.mono ?_
          rintro e x' ⟨rfl, hb⟩
          exact ⟨_, rfl, rfl, hb⟩
        · go_simp
        · go_simp
        · go_simp
        · go_simp
        · go_simp
        · go_simp
        · go_simp
          exact congrArg (Value.int .u32) hnb
        · go_simp
        · go_simp
        · go_simp
        · go_simp
        · go_simp
        · go_simp
        · go_simp
        · go_simp
        · go_simp
        · go_simp
        · go_simp
        · go_simp
        · go_simp
      · intro vs x1 hp hw
        simp only [owed, Fx] at hw
        obtain ⟨e0, e1, e2, e3, e4, e5, e6, e7, e8, e9, e10, e11, e12, e13, e14, e15, e16, e17, e18, e19, e20, e21, e22, e23, e24, e25, e26, e27, -⟩ := hw
        simp only [List.length_cons, List.length_nil, List.take_succ_cons, List.take_nil, List.drop_succ_cons, List.drop_nil, asg, List.cons_append, List.nil_append, e0, e1, e2, e3, e4, e5, e6, e7, e8, e9, e10, e11, e12, e13, e14, e15, e16, e17, e18, e19, e20, e21, e22, e23, e24, e25, e26, e27]
        clear e0 e1 e2 e3 e4 e5 e6 e7 e8 e9 e10 e11 e12 e13 e14 e15 e16 e17 e18 e19 e20 e21 e22 e23 e24 e25 e26 e27
        have hBa : Below X4.heap.size X4 x1 := hB.trans (hp.mono hB.size)
        clear hB hp hck hcw
        go_upto_region 8 with fail
        refine wp_plains [Fx (.int .u32 (a0.toNat : Nat)), Fx (.int .u32 (rd.toNat : Nat)), Fx (.int .u32 (a0.toNat : Nat)), Fx (.int .u32 (re.toNat : Nat)), Fx (.int .u32 (xc.toNat : Nat)), Fx (.int .u32 (a0.toNat : Nat)), Fx (.int .u32 (rf.toNat : Nat)), Fx (.int .u32 (xd.toNat : Nat)), Fx (.int .u32 (a0.toNat : Nat)), Fx (.int .u32 (a1.toNat : Nat)), Fx (.int .u32 (ma.toNat : Nat)), Fx (.int .u32 (a0.toNat : Nat)), Fx (.int .u32 (a2.toNat : Nat)), Fx (.int .u32 (mb.toNat : Nat)), Fx (.int .u32 (mc.toNat : Nat)), Fx (.int .u32 (a1.toNat : Nat)), Fx (.int .u32 (a2.toNat : Nat)), Fx (.int .u32 (md.toNat : Nat)), Fx (.int .u32 (me.toNat : Nat)), Fx (.int .u32 (ua.toNat : Nat)), Fx (.int .u32 (ua.toNat : Nat))] (by kernel_rfl) (by kernel_rfl) ?_ ?_ ?_
        · repeat' (first | exact all_nil | apply all_cons)
          all_goals intro v y y' hv hb
          all_goals first | exact Fx_mono _ _ _ _ hv hb
        · refine ⟨?_, ?_, ?_, ?_, ?_, ?_, ?_, ?_, ?_, ?_, ?_, ?_, ?_, ?_, ?_, ?_, ?_, ?_, ?_, ?_, ?_, trivial⟩
          all_goals
            intro ρ x hp ρc ρg ρf ho hd
            have o7 : ρ (.tmp 7) = .int .u32 (a0.toNat : Nat) := ho 7 rfl
            have o8 : ρ (.tmp 8) = .int .u32 (a1.toNat : Nat) := ho 8 rfl
            have o9 : ρ (.tmp 9) = .int .u32 (a2.toNat : Nat) := ho 9 rfl
            clear ho
            simp only [depsR, depR, slotR, Fx, List.getElem?_cons_succ, List.getElem?_cons_zero, Region.binds, forall_const] at hd
            simp only [guardR]
            go_split_ands
          · go_simp
          · go_simp
            have hz := shaRot_any a0 2 x (by omega) (by omega)
            rw [Hrd.out] at hz
            refine hz.mono ?_
            rintro e x' ⟨rfl, hb⟩
            exact ⟨_, rfl, rfl, hb⟩
          · go_simp
          · go_simp
            have hz := shaRot_any a0 13 x (by omega) (by omega)
            rw [Hre.out] at hz
            refine hz.mono ?_
            rintro e x' ⟨rfl, hb⟩
            exact ⟨_, rfl, rfl, hb⟩
          · go_simp
          · go_simp
          · go_simp
            have hz := shaRot_any a0 22 x (by omega) (by omega)
            rw [Hrf.out] at hz
            refine hz.mono ?_
            rintro e x' ⟨rfl, hb⟩
            exact ⟨_, rfl, rfl, hb⟩
          · go_simp
          · go_simp
          · go_simp
          · go_simp
          · go_simp
          · go_simp
          · go_simp
          · go_simp
          · go_simp
          · go_simp
          · go_simp
          · go_simp
          · go_simp
          · go_simp
        · intro vs x2 hp2 hw
          simp only [owed, Fx] at hw
          obtain ⟨e0, e1, e2, e3, e4, e5, e6, e7, e8, e9, e10, e11, e12, e13, e14, e15, e16, e17, e18, e19, e20, -⟩ := hw
          simp only [List.length_cons, List.length_nil, List.take_succ_cons, List.take_nil, List.drop_succ_cons, List.drop_nil, asg, List.cons_append, List.nil_append, e0, e1, e2, e3, e4, e5, e6, e7, e8, e9, e10, e11, e12, e13, e14, e15, e16, e17, e18, e19, e20]
          clear e0 e1 e2 e3 e4 e5 e6 e7 e8 e9 e10 e11 e12 e13 e14 e15 e16 e17 e18 e19 e20
          have HB : Hid (Below X4.heap.size X4 x2) := hBa.trans (hp2.mono hBa.size)
          clear hBa hp2
          go_wp2
          go_roundw
          case rel => first | exact ⟨k + 1, by omega, by go_num, by rw [HS.out], by rw [HS.out], by rw [HS.out], by rw [HS.out], by rw [HS.out], by rw [HS.out], by rw [HS.out], by rw [HS.out], HB.out⟩ | ((repeat apply Exists.intro); refine ⟨⟨k + 1, by omega, ?_, by rw [HS.out], by rw [HS.out], by rw [HS.out], by rw [HS.out], by rw [HS.out], by rw [HS.out], by rw [HS.out], by rw [HS.out], HB.out⟩, rfl⟩; go_num)
          case measure => simp [intOf]; omega
    · obtain rfl : k = 64 := by omega
      obtain ⟨S, hS⟩ : ∃ S, rndN T 64 st = S := ⟨_, rfl⟩
      rw [hS]
      have HF : Hid ((S.add st).toL = (stepB st (secB b)).toL) := by show _ = _; rw [← hS, ← hT]; rfl
      replace hR1 := hR1.kept hB
      replace hR3 := hR3.kept hB
      have hBw : Below w.heap.size w wr := hBX4.trans (hB.mono hBX4.size)
      clear hS hRk hRw hB hBX4 hT
      have hlit := lit8 S
      go_upto_region 11 with fail
      go_wp2_with fail
      clear hlit
      have hRs : RowC (wr.alloc (.cells (wdA S.toL) 44)) wr.heap.size (wdA (addN S.toL st.toL 0)) := RowC.new _ _ _
      have hls : w.heap.size ≤ wr.heap.size := hBw.size
      have e1 : wr.heap.size ≠ w.heap.size := by have := hR1.lt; omega
      have e4 : wr.heap.size ≠ g4 := by have := hR3.lt; omega
      replace hR1 := hR1.kept (below_alloc wr (.cells (wdA S.toL) 44))
      replace hR3 := hR3.kept (below_alloc wr (.cells (wdA S.toL) 44))
      have hBv : Below w.heap.size w (wr.alloc (.cells (wdA S.toL) 44)) := hBw.alloc hBw.size _
      clear hBw
      generalize wr.heap.size = gs at hRs hls e1 e4 ⊢
      generalize wr.alloc (.cells (wdA S.toL) 44) = Y5 at hRs hR1 hR3 hBv ⊢
      go_loopw [111] (fun i w5 => ∃ k : Nat, k ≤ 8 ∧ i = .int .i64 k ∧ RowC w5 gs (wdA (addN S.toL st.toL k)) ∧ RowC w5 w.heap.size (wdA st.toL) ∧ RowC w5 g4 (wdA zW8) ∧ Below w.heap.size w w5) (fun i _ => 8 - (intOf i).toNat)
      case atStart => exact ⟨0, by omega, rfl, hRs, hR1, hR3, hBv⟩
      case round =>
        clear hRs hR1 hR3 hBv
        obtain ⟨k, hk, rfl, hO, hR1, hR3, hB⟩ := hrel
        by_cases hlt : k < 8
        · have hcx : wr.cell? ⟨gs, k, none⟩ = some (.int .u32 ((wAt S.toL k).toNat : Nat)) := by
            rw [hO.cell k, wdA_get _ k (by rw [addN_len S.toL st.toL k (by rw [toL_length, toL_length]) (by rw [toL_length]; exact hk), toL_length]; exact hlt), addN_get S.toL st.toL k (by rw [toL_length]; exact hlt) (by rw [toL_length]; exact hk)]
          have hcs : wr.cell? ⟨w.heap.size, k, none⟩ = some (.int .u32 ((wAt st.toL k).toNat : Nat)) := by rw [hR1.cell k, wdA_get _ k (by rw [toL_length]; exact hlt)]
          have HS0 := addN_succ S.toL st.toL k (by rw [toL_length]; exact hlt) (by rw [toL_length]; exact hlt)
          have hadd := addw (wAt S.toL k) (wAt st.toL k)
          generalize wAt S.toL k + wAt st.toL k = sw at hadd HS0
          generalize wAt S.toL k = sv at hcx hadd
          generalize wAt st.toL k = tv at hcs hadd
          have HS : Hid _ := HS0
          clear HS0
          have hk0 : (0 : Int) ≤ (k : Int) := by omega
          have hk1 : (k : Int) < 8 := by omega
          have HO0 : Hid _ := hO
          have HR1 : Hid _ := hR1
          have HR3 : Hid _ := hR3
          have HB0 : Hid _ := hB
          clear hO hR1 hR3 hB
          go_upto_region 15 with fail
          refine wp_reliesT [Fx (.int .i64 (k : Nat)), Fx (.pointer (some ⟨gs, k, none⟩)), Fx (.int .u32 (sv.toNat : Nat)), Fx (.int .i64 (k : Nat)), Fx (.pointer (some ⟨w.heap.size, k, none⟩)), Fx (.int .u32 (tv.toNat : Nat)), Fx (.int .u32 (sw.toNat : Nat)), Fx (.pointer (some ⟨gs, k, none⟩))] (by kernel_rfl) (by kernel_rfl) ?_ ?_ ?_
          · repeat' (first | exact all_nil | apply all_cons)
            all_goals intro v y y' hv hb
            all_goals first | exact Fx_mono _ _ _ _ hv hb
          · refine ⟨?_, ?_, ?_, ?_, ?_, ?_, ?_, ?_, trivial⟩
            all_goals
              intro ρ x hp ρc ρg ρf ho hd
              have o2 : ρ (.tmp 2) = .pointer (some ⟨w.heap.size, 0, none⟩) := ho 2 rfl
              have o18 : ρ (.tmp 18) = .pointer (some ⟨gs, 0, none⟩) := ho 18 rfl
              have o19 : ρ (.tmp 19) = .int .i64 (k : Nat) := ho 19 rfl
              clear ho
              have p1 := cell_later hp hcx
              have p2 := cell_later hp hcs
              simp only [depsR, depR, slotR, Fx, List.getElem?_cons_succ, List.getElem?_cons_zero, Region.binds, forall_const] at hd
              simp only [guardR]
              go_split_ands
            · go_simp
            · go_simp
            · go_simp
            · go_simp
            · go_simp
            · go_simp
            · go_simp
            · go_simp
          · intro vs z1 hz1 hw
            simp only [owed, Fx] at hw
            obtain ⟨e0, e1, e2, e3, e4, e5, e6, e7, -⟩ := hw
            simp only [List.length_cons, List.length_nil, List.take_succ_cons, List.take_zero, List.drop_succ_cons, List.drop_zero, asg, List.cons_append, List.nil_append, e0, e1, e2, e3, e4, e5, e6, e7]
            clear e0 e1 e2 e3 e4 e5 e6 e7
            have hO1 := RowC.kept HO0.out hz1
            have hkc1 := cell_later hz1 hcx
            have hfz := hO1.frozen k
            have HO : Hid (RowC (z1.setCell ⟨gs, k, none⟩ (.int .u32 ((sw.toNat : Nat) : Int))) gs (wdA (addN S.toL st.toL (k + 1)))) := by show RowC _ _ _; rw [HS.out, ← wdA_set]; exact hO1.set k _
            have H1 : Hid _ := (RowC.kept HR1.out hz1).set_ne k (.int .u32 ((sw.toNat : Nat) : Int)) e1
            have H3 : Hid _ := (RowC.kept HR3.out hz1).set_ne k (.int .u32 ((sw.toNat : Nat) : Int)) e4
            have HB : Hid _ := (HB0.out.trans (hz1.mono HB0.out.size)).setCell (p := ⟨gs, k, none⟩) hls (.int .u32 ((sw.toNat : Nat) : Int))
            clear hO1 hz1 hcx hcs HO0 HR1 HR3 HB0
            go_wp2
            go_roundw
            case rel => first | exact ⟨k + 1, by omega, by go_num, HO.out, H1.out, H3.out, HB.out⟩ | ((repeat apply Exists.intro); refine ⟨⟨k + 1, by omega, ?_, HO.out, H1.out, H3.out, HB.out⟩, rfl⟩; go_num)
            case measure => simp [intOf]; omega
        · obtain rfl : k = 8 := by omega
          rw [addN_all] at hO
          have h8 := toL_length (S.add st)
          rw [HF.out] at hO h8
          generalize hV : (stepB st (secB b)).toL = V at hO h8
          obtain ⟨r1, q1⟩ := hO
          obtain ⟨r2, q2⟩ := hR3
          have HQ : Hid (RowC (wr.setRow g4 (wdA V)) g4 (wdA V)) := RowC.setRow ⟨r2, q2⟩ _
          have HB : Hid _ := below_row hB l4 (wdA V)
          clear hB hR1 HF
          go_wp2
          refine results_bigRow 44 _ 8 Try.underlying44 rfl sizeT_w8 rfl g4 rfl rfl _ HQ.out (by rw [wdA_size, h8]) ⟨by rw [hV], HB.out⟩
end Go.Proofs.Ytajmlfcbppnpgaa
