import Derived.Test.YtddmmmfpdmejbaaGreatDoorQJop
import Derived.Test.YtddmmmfpdmejbaaGreatDoorQRelk
namespace Go.Proofs.YtddmmmfpdmejbaaGreatDoor
open Go.RowKit

/-! assaylaw15.same -/
theorem NdF.inv {w : World} {F : Nat → Prop} {r : Rn} {k n : Int} {s : List UInt8} {ks : List (List UInt8)} {vs : List Nd} (h : NdF w F r (.mk k n s ks vs)) : r.k = k ∧ r.n = n ∧ lS r.s = s ∧ ∃ kb rs, IsG w r.ks.v (strs kb) ∧ r.ks.In F ∧ kb.map lS = ks ∧ IsK ndE w r.vs.v rs ∧ r.vs.In F ∧ rs.length = vs.length ∧ (r.ks.n ≤ 17592186044416 ∧ r.vs.n ≤ 17592186044416) ∧ ∀ (i : Nat) a d, rs[i]? = some a → vs[i]? = some d → NdF w F a d := by
  cases h using NdF.rc with
  | mk r kb rs vs hk hkF hv hvF hl hz he r9 => clear r9; exact ⟨rfl, rfl, rfl, kb, rs, hk, hkF, rfl, hv, hvF, hl, hz, he⟩
theorem map_lS_inj : ∀ {a b : List ByteArray}, a.map lS = b.map lS → a = b
  | [], [], _ => rfl
  | [], _ :: _, h => by simp at h
  | _ :: _, [], h => by simp at h
  | x :: a, y :: b, h => by
    simp only [List.map_cons, List.cons.injEq] at h
    rw [lS_inj h.1, map_lS_inj h.2]
theorem alloc_sz15 (w : World) (o : Obj) : (w.alloc o).heap.size = w.heap.size + 1 := by show (w.heap.push o).size = _; simp
theorem bneS (s : ByteArray) : (s.toList != s.toList) = false := by simp
def SameOk (d : Nd) : Prop := ∀ (w : World) (F G : Nat → Prop) (a b : Rn), NdF w F a d → NdF w G b d → Calls Tryz.prog 18 #[.agg (rnA a), .agg (rnA b)] w fun e w' => e = .returned (.bool true) ∧ Below w.heap.size w w'
set_option linter.unusedSimpArgs false in
set_option maxRecDepth 100000 in
set_option maxHeartbeats 16000000 in
theorem same15_step (k n : Int) (s : List UInt8) (ks : List (List UInt8)) (vs : List Nd) (ih : ∀ d ∈ vs, SameOk d) : SameOk (.mk k n s ks vs) := fun w F G a b ha hb => by
  obtain ⟨a1, a2, a3, kb, rs, ak, -, akk, av, -, al, ⟨hmk, hmv⟩, ae⟩ := ha.inv
  obtain ⟨b1, b2, b3, kb2, rs2, bk, -, bkk, bv, -, bl, -, be⟩ := hb.inv
  have hkb : kb = kb2 := map_lS_inj (akk.trans bkk.symm)
  subst hkb
  have hS : a.s = b.s := lS_inj (a3.trans b3.symm)
  have hk9 : a.k = b.k := a1.trans b1.symm
  have hn9 : a.n = b.n := a2.trans b2.symm
  have na := ak.num
  have nb := bk.num
  have va := av.num
  have vb := bv.num
  have hst : (strs kb).length = kb.length := by simp [strs]
  rw [hst] at na nb
  have bA := below_alloc w (.cells (rnA a) 41)
  have bB := below_alloc (w.alloc (.cells (rnA a) 41)) (.cells (rnA b) 41)
  have rA := (RowC.new w (rnA a) 41).kept bB
  have rB := RowC.new (w.alloc (.cells (rnA a) 41)) (rnA b) 41
  have bY := bA.trans (bB.mono bA.size)
  obtain ⟨n0, hn0⟩ : ∃ q, w.heap.size = q := ⟨_, rfl⟩
  have hsz1 : (w.alloc (.cells (rnA a) 41)).heap.size = n0 + 1 := by rw [alloc_sz15, hn0]
  rw [hsz1] at rB
  rw [hn0] at rA
  go_enter Tryz.func18, Tryz.ntmps18
  go_upto_region 1 with fail
  have bY2 : Below n0 w ((w.alloc (.cells (rnA a) 41)).alloc (.cells (rnA b) 41)) := by rw [← hn0]; exact bY
  generalize (w.alloc (.cells (rnA a) 41)).alloc (.cells (rnA b) 41) = Y at rA rB bY bY2 ⊢
  clear bA bB hsz1
  have akY := ak.kept bY
  have bkY := bk.kept bY
  have avY := av.kept bY
  have bvY := bv.kept bY
  have HAE : Hid (∀ (i : Nat) u d, rs[i]? = some u → vs[i]? = some d → NdF Y F u d) := fun i u d h1 h2 => (ae i u d h1 h2).kept bY
  have HBE : Hid (∀ (i : Nat) u d, rs2[i]? = some u → vs[i]? = some d → NdF Y G u d) := fun i u d h1 h2 => (be i u d h1 h2).kept bY
  obtain ⟨k9, n9, s9, ⟨xk, nk, ck⟩, ⟨xv, nv, cv⟩⟩ := a
  obtain ⟨k8, n8, s8, ⟨yk, mk, dk⟩, ⟨yv, mv, dv⟩⟩ := b
  simp only at hk9 hn9 hS na nb va vb hmk hmv
  subst hk9 hn9 hS na nb
  obtain rfl : nv = mv := by omega
  have HV : Hid (nv = rs.length ∧ nv = rs2.length ∧ nv = vs.length) := ⟨va, vb, by omega⟩
  clear va vb
  have a0 : Y.cell? ⟨n0, 0, none⟩ = some (.int .i64 k9) := rA.cell 0
  have a1' : Y.cell? ⟨n0, 1, none⟩ = some (.int .i64 n9) := rA.cell 1
  have a2' : Y.cell? ⟨n0, 2, none⟩ = some (.string s9) := rA.cell 2
  have a3' : Y.cell? ⟨n0, 3, none⟩ = some (.slice xk kb.length ck) := rA.cell 3
  have a4 : Y.cell? ⟨n0, 4, none⟩ = some (.slice xv nv cv) := rA.cell 4
  have b0 : Y.cell? ⟨n0 + 1, 0, none⟩ = some (.int .i64 k9) := rB.cell 0
  have b1' : Y.cell? ⟨n0 + 1, 1, none⟩ = some (.int .i64 n9) := rB.cell 1
  have b2' : Y.cell? ⟨n0 + 1, 2, none⟩ = some (.string s9) := rB.cell 2
  have b3' : Y.cell? ⟨n0 + 1, 3, none⟩ = some (.slice yk kb.length dk) := rB.cell 3
  have b4 : Y.cell? ⟨n0 + 1, 4, none⟩ = some (.slice yv nv dv) := rB.cell 4
  have HAV : Hid (IsK ndE Y (.slice xv nv cv) rs) := avY
  have HBV : Hid (IsK ndE Y (.slice yv nv dv) rs2) := bvY
  have HAK : Hid (IsG Y (.slice xk kb.length ck) (strs kb)) := akY
  have HBK : Hid (IsG Y (.slice yk kb.length dk) (strs kb)) := bkY
  obtain ⟨g3, hg3⟩ : ∃ q, n0 + 1 = q := ⟨_, rfl⟩
  rw [hg3] at b0 b1' b2' b3' b4 ⊢
  obtain ⟨KL, hKL⟩ : ∃ q, kb.length = q := ⟨_, rfl⟩
  rw [hKL] at a3' b3' HAK HBK hmk
  have HKL : Hid _ := hKL
  clear ak bk av bv ae be akk bkk a1 b1 a2 b2 a3 b3 ha hb akY bkY avY bvY rA rB bY hst hKL hg3 al bl
  go_wp2_with fail
  go_loopw [47] (fun iv wr => ∃ j : Nat, j ≤ KL ∧ iv = .int .i64 j ∧ Below Y.heap.size Y wr) (fun iv _ => KL - (intOf iv).toNat)
  case atStart => exact ⟨0, by omega, rfl, Below.refl _ _⟩
  case round =>
    obtain ⟨j, hj, rfl, hB⟩ := hrel
    by_cases hlt : j < KL
    · have i1 : (j : Int) < (KL : Int) := by omega
      have i0 : (0 : Int) ≤ (j : Int) := by omega
      have hkj : j < (strs kb).length := by simp [strs]; have : kb.length = KL := HKL.out; omega
      obtain ⟨ba, oa, rfl, -, ca⟩ := IsG.spot HAK.out j hkj
      obtain ⟨bb, ob, rfl, -, cb⟩ := IsG.spot HBK.out j hkj
      obtain ⟨S, hS⟩ : ∃ S, (strs kb)[j]? = some (.string S) := ⟨kb[j]'(by simpa [strs] using hkj), by simp [strs] at hkj; simp [strs, hkj]⟩
      have q1 := cell_later hB (ca j _ hS)
      have q2 := cell_later hB (cb j _ hS)
      have q3 := cell_later hB a3'
      have q4 := cell_later hB b3'
      have hwr : IntKind.i64.wrap ((j : Int) + 1) = (j : Int) + 1 := by rw [IntKind.wrap_i64]; omega
      clear ca cb hS hkj a0 a1' a2' a4 b0 b1' b2' b4
      go_upto_region 6 with fail
      refine wp_relies [Fx (.pointer (some ⟨n0, 3, none⟩)), Fx (.slice (some ⟨ba, oa, none⟩) KL ck), Fx (.int .i64 (j : Int)), Fx (.pointer (some ⟨ba, oa + j, none⟩)), Fx (.string S), Fx (.pointer (some ⟨g3, 3, none⟩)), Fx (.slice (some ⟨bb, ob, none⟩) KL dk), Fx (.int .i64 (j : Int)), Fx (.pointer (some ⟨bb, ob + j, none⟩)), Fx (.string S), Fx (.bool false)] (by kernel_rfl) (by kernel_rfl) ?_ ?_ ?_
      · repeat' (first | exact all_nil | apply all_cons)
        all_goals intro v y y' hv hb
        all_goals first | exact Fx_mono _ _ _ _ hv hb
      · refine ⟨?_, ?_, ?_, ?_, ?_, ?_, ?_, ?_, ?_, ?_, ?_, trivial⟩
        all_goals
          intro ρ y9 hp ρc ρg ρf ho hd
          have o2 : ρ (.tmp 2) = .pointer (some ⟨n0, 0, none⟩) := ho 2 rfl
          have o3 : ρ (.tmp 3) = .pointer (some ⟨g3, 0, none⟩) := ho 3 rfl
          have o5 : ρ (.tmp 5) = .int .i64 (j : Int) := ho 5 rfl
          clear ho
          replace q1 := cell_later hp q1
          replace q2 := cell_later hp q2
          replace q3 := cell_later hp q3
          replace q4 := cell_later hp q4
          simp only [depsR, depR, slotR, Fx, List.getElem?_cons_succ, List.getElem?_cons_zero, Region.binds, forall_const] at hd
          simp only [guardR]
          go_split_ands
        · go_simp
        · go_simp
        · go_simp
        · go_simp
        · go_simp
        · go_simp
        · go_simp
        · go_simp
        · go_simp
        · go_simp
        · go_simp
      · intro us x1 hp1 hw
        simp only [owed, Fx] at hw
        obtain ⟨e0, e1, e2, e3, e4, e5, e6, e7, e8, e9, e10, -⟩ := hw
        simp only [List.length_cons, List.length_nil, List.take_succ_cons, List.take_nil, List.drop_succ_cons, List.drop_nil, asg, List.cons_append, List.nil_append, e0, e1, e2, e3, e4, e5, e6, e7, e8, e9, e10]
        clear e0 e1 e2 e3 e4 e5 e6 e7 e8 e9 e10
        have hB2 := hB.trans (hp1.mono hB.size)
        clear q1 q2 q3 q4 hB hp1
        go_wp2
        go_roundw
        case rel => first | exact ⟨j + 1, by omega, by go_num, hB2⟩ | ((repeat apply Exists.intro); refine ⟨⟨j + 1, by omega, ?_, hB2⟩, rfl⟩; go_num)
        case measure => simp [intOf]; omega
    · obtain rfl : j = KL := by omega
      have i1 : ¬ (j : Int) < (j : Int) := by omega
      replace a4 := cell_later hB a4
      have hB0 := hB
      clear a0 a1' a2' b0 b1' b2' a3' b3' hB HAK HBK
      go_wp2_with fail
      generalize wr = Z at hB0 a4 ⊢
      replace b4 := cell_later hB0 b4
      have HAE2 : Hid (∀ (i : Nat) u d, rs[i]? = some u → vs[i]? = some d → NdF Z F u d) := fun i u d h1 h2 => NdF.kept (HAE.out i u d h1 h2) hB0
      have HBE2 : Hid (∀ (i : Nat) u d, rs2[i]? = some u → vs[i]? = some d → NdF Z G u d) := fun i u d h1 h2 => NdF.kept (HBE.out i u d h1 h2) hB0
      have HAV2 : Hid (IsK ndE Z (.slice xv nv cv) rs) := IsK.kept HAV.out hB0
      have HBV2 : Hid (IsK ndE Z (.slice yv nv dv) rs2) := IsK.kept HBV.out hB0
      have HB0 : Hid (Below n0 w Z) := bY2.trans (hB0.mono (by have := bY2.size; omega))
      clear HAE HBE HAV HBV hB0
      go_loopw [65] (fun iv wr => ∃ j : Nat, j ≤ nv ∧ iv = .int .i64 j ∧ Below Z.heap.size Z wr) (fun iv _ => nv - (intOf iv).toNat)
      case atStart => exact ⟨0, by omega, rfl, Below.refl _ _⟩
      case round =>
        obtain ⟨p, hp, rfl, hB⟩ := hrel
        by_cases hlt : p < nv
        · have i2 : (p : Int) < (nv : Int) := by omega
          have i0 : (0 : Int) ≤ (p : Int) := by omega
          obtain ⟨va, vb, vc⟩ := HV.out
          obtain ⟨ra, hra⟩ : ∃ q, rs[p]? = some q := ⟨_, List.getElem?_eq_getElem (by omega)⟩
          obtain ⟨rb, hrb⟩ : ∃ q, rs2[p]? = some q := ⟨_, List.getElem?_eq_getElem (by omega)⟩
          obtain ⟨dd, hdd⟩ : ∃ q, vs[p]? = some q := ⟨_, List.getElem?_eq_getElem (by omega)⟩
          obtain ⟨ba, oa, rfl, -, ca⟩ := IsK.at HAV2.out p ra hra
          obtain ⟨bb, ob, rfl, -, cb⟩ := IsK.at HBV2.out p rb hrb
          have la := fun x (hx : Below wr.heap.size wr x) => run_load_el (range_later (range_later ca hB) hx)
          have lb := fun x (hx : Below wr.heap.size wr x) => run_load_el (range_later (range_later cb hB) hx)
          have hcall := fun x (hx : Below wr.heap.size wr x) => ih dd (List.mem_of_getElem? hdd) x F G ra rb (((HAE2.out p ra dd hra hdd).kept hB).kept hx) (((HBE2.out p rb dd hrb hdd).kept hB).kept hx)
          have q3 := cell_later hB a4
          have q4 := cell_later hB b4
          have hwr : IntKind.i64.wrap ((p : Int) + 1) = (p : Int) + 1 := by rw [IntKind.wrap_i64]; omega
          have l5 : ndE.k = 5 := rfl
          simp only [l5] at la lb
          clear ca cb hra hrb hdd va vb vc
          go_upto_region 12 with fail
          refine wp_relies [Fx (.pointer (some ⟨n0, 4, none⟩)), Fx (.slice (some ⟨ba, oa, none⟩) nv cv), Fx (.int .i64 (p : Int)), Fx (.pointer (some ⟨ba, oa + p * 5, none⟩)), Fx (.agg (rnA ra)), Fx (.pointer (some ⟨g3, 4, none⟩)), Fx (.slice (some ⟨bb, ob, none⟩) nv dv), Fx (.int .i64 (p : Int)), Fx (.pointer (some ⟨bb, ob + p * 5, none⟩)), Fx (.agg (rnA rb)), Fx (.bool true), Fx (.bool false)] (by kernel_rfl) (by kernel_rfl) ?_ ?_ ?_
          · repeat' (first | exact all_nil | apply all_cons)
            all_goals intro v y y' hv hb
            all_goals first | exact Fx_mono _ _ _ _ hv hb
          · refine ⟨?_, ?_, ?_, ?_, ?_, ?_, ?_, ?_, ?_, ?_, ?_, ?_, trivial⟩
            all_goals
              intro ρ y9 hp ρc ρg ρf ho hd
              have o2 : ρ (.tmp 2) = .pointer (some ⟨n0, 0, none⟩) := ho 2 rfl
              have o3 : ρ (.tmp 3) = .pointer (some ⟨g3, 0, none⟩) := ho 3 rfl
              have o6 : ρ (.tmp 6) = .int .i64 (p : Int) := ho 6 rfl
              clear ho
              replace q3 := cell_later hp q3
              replace q4 := cell_later hp q4
              simp only [depsR, depR, slotR, Fx, List.getElem?_cons_succ, List.getElem?_cons_zero, Region.binds, forall_const] at hd
              simp only [guardR]
              go_split_ands
            · go_simp
            · go_simp
            · go_simp
            · go_simp
            · have l9 := la y9 hp
              go_simp
            · go_simp
            · go_simp
            · go_simp
            · go_simp
            · have l9 := lb y9 hp
              go_simp
            · go_simp
              refine (hcall y9 hp).mono ?_
              rintro e9 x' ⟨rfl, hb⟩
              exact ⟨_, rfl, rfl, hb⟩
            · go_simp
          · intro us x1 hp1 hw
            simp only [owed, Fx] at hw
            obtain ⟨e0, e1, e2, e3, e4, e5, e6, e7, e8, e9, e10, e11, -⟩ := hw
            simp only [List.length_cons, List.length_nil, List.take_succ_cons, List.take_nil, List.drop_succ_cons, List.drop_nil, asg, List.cons_append, List.nil_append, e0, e1, e2, e3, e4, e5, e6, e7, e8, e9, e10, e11]
            clear e0 e1 e2 e3 e4 e5 e6 e7 e8 e9 e10 e11
            have hB2 := hB.trans (hp1.mono hB.size)
            clear la lb hcall q3 q4 hB hp1
            go_wp2
            go_roundw
            case rel => first | exact ⟨p + 1, by omega, by go_num, hB2⟩ | ((repeat apply Exists.intro); refine ⟨⟨p + 1, by omega, ?_, hB2⟩, rfl⟩; go_num)
            case measure => simp [intOf]; omega
        · obtain rfl : p = nv := by omega
          have i2 : ¬ (p : Int) < (p : Int) := by omega
          have hBf : Below n0 w wr := Below.trans HB0.out (hB.mono (by have := Below.size HB0.out; have := bY2.size; omega))
          go_wp2
          go_ret
          exact ⟨rfl, hBf⟩
theorem same15_any : ∀ d, SameOk d := Nd.ind fun k n s ks vs ih => same15_step k n s ks vs ih
end Go.Proofs.YtddmmmfpdmejbaaGreatDoor
