
import Derived.Test.YtligjfofnafjeaaFoe
namespace Go.Proofs.Ytligjfofnafjeaa
open Go.RowKit

/-! assaylaw21.ForestExact -/
theorem layC_size (c : Array Value) (o : Nat) (vs : Array Value) (h : o + vs.size ≤ c.size) : (layC c o vs).size = c.size := by
  unfold layC
  simp
  omega
@[go_sem] theorem run_rf_store_mid (w : World) (g o : Nat) (r : Rw) (h : rowL w g = true) (hs : o + 36 ≤ (rowAt w g).size) : (bigStore 45 (.pointer (some ⟨g, o, none⟩)) (.agg (rwA r))).run Try.prog w = .ok .skip (w.setRow g (layC (rowAt w g) o (rwA r))) :=
  run_bigStore 45 36 sizeT_rf w g o (rwA r) h (rwA_size r) hs (rwA_one r)
def snBS0 : Sem Next := do pure (.value (← Instr.buildSlice 32 0 #[]))
@[go_sem ↓] theorem execOp_snBS0 (ρ : Operand → Value) (dst : Option Tmp) (ty : TypeId) (pos : String) (after : Array Edge) (guard : Option (Nat × Bool)) : execOp ρ { dst, op := .buildSlice 32 0 #[], type := ty, pos, after, guard } = snBS0 := by simp [execOp, snBS0]
@[go_sem] theorem run_snBS0 (w : World) : snBS0.run Try.prog w = .ok (.value (.slice (some ⟨w.heap.size, 0, none⟩) 0 0)) (w.alloc (.cells #[] 37)) := by
  have h := run_litK0 snE_ok w
  simp only [snBS0, Sem.run_bind]
  rw [show 32 = snE.S from rfl, h]
  rfl
theorem ownK_lit0 (w : World) : OwnK snE (w.alloc (.cells #[] 37)) w.heap.size (.slice (some ⟨w.heap.size, 0, none⟩) 0 0) [] := by
  have := OwnK.lit snE_ok w [] (by show 0 ≤ maxLen; decide)
  exact this
theorem keep_row21 (w : World) (g : Nat) (c : Array Value) : Keep [g] w (w.setRow g c) :=
  ⟨setRow_os _ _ _, setRow_tape _ _ _, setRow_output _ _ _, by rw [setRow_size]; exact Nat.le_refl _, fun k _ hn => setRow_other w g k c (fun e => hn (by simp [e]))⟩
theorem rowC_heap {w : World} {g : Nat} {cur : Array Value} {T : TypeId} (h : w.heap[g]? = some (.cells cur T (0, 0))) : RowC w g cur := by
  refine ⟨?_, ?_⟩
  · unfold rowL; rw [h]; rfl
  · unfold rowAt; rw [h]
theorem t0_rd {n B : Nat} {W : World} {V U : Nat → Value} {K : Nat → Bool} {P : Nat → Nat} {L : Nat → List Nat} {T0 : Nat → Option Th} (h : Ga W B T0) (h0 : ∀ m, m < 8 → T0 m = some (thG 3 B (lv8 V U m) (iF (if m < 4 then L (m + 2) else L (m - 2))))) (h8 : T0 8 = some (thG 33 B (V 1) (uF P n))) (h9 : T0 9 = some (thG 33 B (U 1) (uF P n))) (h10 : T0 10 = some (thG 4 B (V 0) (bF K n))) (h11 : T0 11 = some (thG 4 B (U 0) (bF K n))) : Rd n W V K P L ∧ Rd n W U K P L := by
  refine ⟨⟨(h.isG h10).isG, (h.isG h8).isG, fun q h2 h6 => ?_⟩, ⟨(h.isG h11).isG, (h.isG h9).isG, fun q h2 h6 => ?_⟩⟩
  · have := (h.isG (h0 (q - 2) (by omega))).isG
    rw [if_pos (by omega), show q - 2 + 2 = q by omega] at this
    rcases q with _ | _ | _ | _ | _ | _ | q
    all_goals first | exact this | omega
  · have := (h.isG (h0 (q + 2) (by omega))).isG
    rw [if_neg (by omega), show q + 2 - 2 = q by omega] at this
    rcases q with _ | _ | _ | _ | _ | _ | q
    all_goals first | exact this | omega
theorem ga21_rd {n B : Nat} {W : World} {V : Nat → Value} {K : Nat → Bool} {P : Nat → Nat} {L : Nat → List Nat} {ro : Option (Nat × Array Value)} (h : Ga W B (T21 B n ro V K P L)) : Rd n W V K P L := ⟨(h.isG (k := 0) rfl).isG, (h.isG (k := 1) rfl).isG, fun _ h2 h6 => (h.isG (T21_int h2 h6)).isG⟩
set_option linter.unusedSimpArgs false in
set_option maxRecDepth 100000 in
set_option maxHeartbeats 16000000 in
theorem lawForestExact_any (O : ForOk) (l : List Rw) (x : Option Addr) (n c : Nat) (w : World) (hn : l.length = n) (h41 : n ≤ 3198579280801) (hs : ∀ r ∈ l, r.sn.ok) (hl : IsK rwE w (.slice x n c) l) :
    Calls Try.prog 6 #[.slice x n c] w fun e w' => e = .returned (.bool true) ∧ Below w.heap.size w w' := by
  have kK := fun W => known21 O W
  go_enter Try.func6, Try.ntmps6
  go_wp2_with fail
  refine (kK _).mono ?_
  rintro e X0 ⟨rfl, hB0⟩
  clear kK
  have kR := rows21 l x n c X0 hn (by omega) (hl.kept hB0)
  go_wp2_with fail
  refine kR.mono ?_
  rintro e X1 ⟨gr, cr, rfl, hO1, hb1⟩
  rw [hn] at hO1 ⊢
  have hB1 := hB0.trans (hb1.mono hB0.size)
  have hgr := World.ownsRow.lt hO1 gr rfl
  obtain ⟨cur, hcn, -, hcg, hcle, -, hcs, -⟩ := hO1.heap
  have hl1 := hl.kept hB1
  obtain ⟨m, hm⟩ : ∃ m, m = n + 1 := ⟨_, rfl⟩
  rw [← hm] at hO1 hcle hcn
  have etk : (l ++ [ex77]).take n = l := by rw [← hn, List.take_left]
  clear kR hb1
  go_wp2_with fail
  refine (refOf21 l x n c X1 hn (by omega) hs hl1).mono ?_
  rintro e W1 ⟨V0, rfl, hF0⟩
  rw [hn] at hF0
  have bC0 := below_alloc W1 (.cells (foA V0) 43)
  have hR0 := RowC.new W1 (foA V0) 43
  have hon0 := foA_one' hF0
  have zV0 : (foA V0).size = 6 := foA_size _
  go_upto_region 5 with fail
  obtain ⟨Y1, hY1⟩ : ∃ q, W1.alloc (.cells (foA V0) 43) = q := ⟨_, rfl⟩
  obtain ⟨g4, hg4⟩ : ∃ q, W1.heap.size = q := ⟨_, rfl⟩
  rw [hY1] at bC0 hR0
  rw [hg4] at hR0
  simp only [hY1, hg4]
  clear hon0 zV0
  have hO2 := (hO1.keep hF0.be).keep bC0
  have hI2 := (hO2.cut rwF_ok n (by omega)).isK rwF_ok
  rw [etk] at hI2
  go_wp2_with fail
  refine (O.of l (some ⟨gr, 0, none⟩) n cr Y1 hn (by omega) hs hI2).mono ?_
  rintro e W2 ⟨V1, rfl, hF1⟩
  rw [hn] at hF1
  have bC1 := below_alloc W2 (.cells (foA V1) 28)
  have hR1 := RowC.new W2 (foA V1) 28
  have hon1 := foA_one' hF1
  have zV1 : (foA V1).size = 6 := foA_size _
  go_upto_region 6 with fail
  obtain ⟨Y2, hY2⟩ : ∃ q, W2.alloc (.cells (foA V1) 28) = q := ⟨_, rfl⟩
  obtain ⟨g5, hg5⟩ : ∃ q, W2.heap.size = q := ⟨_, rfl⟩
  rw [hY2] at bC1 hR1
  rw [hg5] at hR1
  simp only [hY2, hg5]
  clear hon1 zV1
  have hO3 := (hO2.keep hF1.be).keep bC1
  have hI3 := (hO3.cut rwF_ok n (by omega)).isK rwF_ok
  rw [etk] at hI3
  go_wp2_with fail
  refine (O.of l (some ⟨gr, 0, none⟩) n cr Y2 hn (by omega) hs hI3).mono ?_
  rintro e W3 ⟨V2, rfl, hF2⟩
  rw [hn] at hF2
  have bC2 := below_alloc W3 (.cells (foA V2) 28)
  have hR2 := RowC.new W3 (foA V2) 28
  have hon2 := foA_one' hF2
  have zV2 : (foA V2).size = 6 := foA_size _
  go_upto_region 7 with fail
  obtain ⟨Y3, hY3⟩ : ∃ q, W3.alloc (.cells (foA V2) 28) = q := ⟨_, rfl⟩
  obtain ⟨g6, hg6⟩ : ∃ q, W3.heap.size = q := ⟨_, rfl⟩
  rw [hY3] at bC2 hR2
  rw [hg6] at hR2
  simp only [hY3, hg6]
  clear hon2 zV2
  have hO4 := (hO3.keep hF2.be).keep bC2
  obtain ⟨T0, jG, j0, j8, j9, j10, j11, jT⟩ := join21 (h1 := hF1.ga.later bC1) (h2 := hF2.ga) hF2.be
  have hG := jG.later bC2
  have hA1 := (hF1.be.mono (Nat.le_refl _)).trans (bC1.mono hF1.be.size)
  have hA2 := (hF2.be.mono (Nat.le_refl _)).trans (bC2.mono hF2.be.size)
  have hG0 := (((hF0.ga.later bC0).later hA1).later hA2)
  have hR4 := (hR0.kept hA1).kept hA2
  have hR5 := hR1.kept hA2
  have hR6 := hR2
  have hA0 := (hF0.be.mono (Nat.le_refl _)).trans (bC0.mono hF0.be.size)
  have hX3 : Below X1.heap.size X1 Y3 := (hA0.trans (hA1.mono hA0.size)).trans (hA2.mono (Nat.le_trans hA0.size hA1.size))
  have hBY := hB1.trans (hX3.mono hB1.size)
  have hY1 : X1.heap.size ≤ Y1.heap.size := hA0.size
  have hcg3 : Y3.heap[gr]? = some (.cells cur rwF.T (0, 0)) := by rw [hX3.block gr hgr.2]; exact hcg
  have hn4 : g4 ≠ gr := by have := hF0.be.size; omega
  have hn5 : g5 ≠ gr := by have := hF1.be.size; omega
  have hn6 : g6 ≠ gr := by have := hF1.be.size; have := hF2.be.size; have := bC1.size; omega
  clear hF0 hF1 hF2 bC0 bC1 bC2 hO2 hO3 hI2 hI3 jG hR0 hR1 hR2 hA0 hA1 hA2 hcg hY2 hY3 hg4 hg5 hg6
  go_wp2_with fail
  have hm1 : (n : Int) + 1 = (m : Int) := by omega
  have hmi : (m : Int) ≤ (cr : Int) := by omega
  simp only [hm1, ← hm]
  have HM : Hid (m = n + 1) := hm
  clear hm hm1 hcn
  go_loopw [8] (fun iv wr => ∃ i : Nat, i ≤ n ∧ iv = .int .i64 i ∧ Below Y3.heap.size Y3 wr) (fun iv _ => n - (intOf iv).toNat)
  case atStart => exact ⟨0, by omega, rfl, Below.refl _ _⟩
  case round =>
    obtain ⟨i, hi, rfl, hB⟩ := hrel
    by_cases hlt : i < n
    · obtain ⟨r, hr⟩ : ∃ r, l[i]? = some r := ⟨_, List.getElem?_eq_getElem (by omega)⟩
      obtain ⟨th, la, sn⟩ := r
      have hlk := (hl1.kept hX3).kept hB
      obtain ⟨g, o, e9, -, c0, c1, -, -⟩ := rwE_cells hlk i _ hr
      subst e9
      have HSN : Hid (∀ x, Below wr.heap.size wr x → rgOk x g (o + i * 36 + 2) 34 = true ∧ rg x g (o + i * 36 + 2) 34 = snA sn) := fun x hb => by
        obtain ⟨g9, o9, e9, -, -, k3, k4⟩ := rwE_rg (hlk.kept hb) i _ hr
        cases e9
        exact ⟨k3, k4⟩
      have hr' : (l ++ [ex77])[i]? = some ⟨th, la, sn⟩ := by rw [List.getElem?_append_left (by omega)]; exact hr
      have HRF : Hid (∀ x, Below wr.heap.size wr x → rgOk x gr (i * 36) 36 = true ∧ rg x gr (i * 36) 36 = rwA ⟨th, la, sn⟩) := fun x hb => by
        obtain ⟨g9, o9, e9, k3, k4, -, -⟩ := rwF_rg (((hO4.keep hB).keep hb).isK rwF_ok) i _ hr'
        cases e9
        rw [Nat.zero_add] at k3 k4
        exact ⟨k3, k4⟩
      have i0 : (i : Int) < (n : Int) := by omega
      have FK : Hid ((0 : Int) ≤ (i : Int) ∧ (i : Int) < (n : Int) ∧ (i : Int) < (n : Int) + 1 ∧ (i : Int) < (m : Int)) := ⟨by omega, i0, by omega, by have := HM.out; omega⟩
      have HI : Hid (i < n) := hlt
      clear hr hr' hlk hlt hi
      go_upto_region 11 with fail
      clear i0
      refine wp_relies [Fx (.slice (some ⟨gr, 0, none⟩) m cr), Fx (.int .i64 (i : Int)), Fx (.pointer (some ⟨gr, i * 36, none⟩)), Fx (.agg (rwA ⟨th, la, sn⟩)), Fx (.slice (some ⟨g, o, none⟩) n c), Fx (.int .i64 (i : Int)), Fx (.pointer (some ⟨g, o + i * 36, none⟩)), Fx (.pointer (some ⟨g, o + i * 36, none⟩)), Fx (.bool th), Fx (.slice (some ⟨g, o, none⟩) n c), Fx (.int .i64 (i : Int)), Fx (.pointer (some ⟨g, o + i * 36, none⟩)), Fx (.pointer (some ⟨g, o + i * 36 + 1, none⟩)), Fx (.bool la), Fx (.slice (some ⟨g, o, none⟩) n c), Fx (.int .i64 (i : Int)), Fx (.pointer (some ⟨g, o + i * 36, none⟩)), Fx (.pointer (some ⟨g, o + i * 36 + 2, none⟩)), Fx (.agg (snA sn)), Fx (.agg (rwA ⟨th, la, sn⟩)), Fx (.bool false)] (by kernel_rfl) (by kernel_rfl) ?_ ?_ ?_
      · repeat' (first | exact all_nil | apply all_cons)
        all_goals intro v y y' hv hb
        all_goals first | exact Fx_mono _ _ _ _ hv hb
      · refine ⟨?_, ?_, ?_, ?_, ?_, ?_, ?_, ?_, ?_, ?_, ?_, ?_, ?_, ?_, ?_, ?_, ?_, ?_, ?_, ?_, ?_, trivial⟩
        all_goals
          intro ρ x_1 hp ρc ρg ρf ho hd
          have o0 : ρ (.tmp 0) = .slice (some ⟨g, o, none⟩) n c := ho 0 rfl
          have o7 : ρ (.tmp 7) = .slice (some ⟨gr, 0, none⟩) m cr := ho 7 rfl
          have o8 : ρ (.tmp 8) = .int .i64 (i : Int) := ho 8 rfl
          clear ho
          have y0 := cell_later hp c0
          have y1 := cell_later hp c1
          obtain ⟨k1, k2⟩ := HSN.out x_1 hp
          obtain ⟨k3, k4⟩ := HRF.out x_1 hp
          simp only [depsR, depR, slotR, Fx, List.getElem?_cons_succ, List.getElem?_cons_zero, Region.binds, forall_const] at hd
          simp only [guardR]
          go_split_ands
        · go_simp
        · go_simp
        · obtain ⟨z1, z2, z3, z4⟩ := FK.out
          go_simp
        · go_simp
        · go_simp
        · go_simp
        · obtain ⟨z1, z2, z3, z4⟩ := FK.out
          go_simp
        · go_simp
        · go_simp
        · go_simp
        · go_simp
        · obtain ⟨z1, z2, z3, z4⟩ := FK.out
          go_simp
        · go_simp
        · go_simp
        · go_simp
        · go_simp
        · obtain ⟨z1, z2, z3, z4⟩ := FK.out
          go_simp
        · go_simp
        · go_simp
        · go_simp
        · go_simp
      · intro vs x2 hp hw
        simp only [owed, Fx] at hw
        obtain ⟨e0, e1, e2, e3, e4, e5, e6, e7, e8, e9, e10, e11, e12, e13, e14, e15, e16, e17, e18, e19, e20, -⟩ := hw
        simp only [List.length_cons, List.length_nil, List.take_succ_cons, List.take_nil, List.drop_succ_cons, List.drop_nil, asg, List.cons_append, List.nil_append, e0, e1, e2, e3, e4, e5, e6, e7, e8, e9, e10, e11, e12, e13, e14, e15, e16, e17, e18, e19, e20]
        clear e0 e1 e2 e3 e4 e5 e6 e7 e8 e9 e10 e11 e12 e13 e14 e15 e16 e17 e18 e19 e20
        have HB : Hid _ := hB.trans (hp.mono hB.size)
        have i0' : (i : Int) < (n : Int) := FK.out.2.1
        clear hp hB c0 c1
        go_wp2
        go_roundw
        case rel => first | exact ⟨i + 1, by have := HI.out; omega, by go_num, HB.out⟩ | ((repeat apply Exists.intro); refine ⟨⟨i + 1, by have := HI.out; omega, ?_, HB.out⟩, rfl⟩; go_num)
        case measure => have := HI.out; simp [intOf]; omega
    · obtain rfl : n = i := by omega
      have i0 : ¬ (n : Int) < (n : Int) := by omega
      clear hlt hi
      obtain ⟨g9, o9, e9, -, -, -, d2, -⟩ := rwF_cells ((hO4.keep hB).isK rwF_ok) n ex77 (by rw [List.getElem?_append_right (by omega), hn, Nat.sub_self]; rfl)
      cases e9
      have d2' : wr.cell? ⟨gr, n * 36 + 2, none⟩ = some (.int .u32 77) := by rw [Nat.zero_add] at d2; exact d2
      obtain ⟨rd1, rd2⟩ := t0_rd hG j0 j8 j9 j10 j11
      have rd0 := ga21_rd hG0
      have hLn : ∀ q, (FL (frO l) n n q).length ≤ n := fun q => FL_len _ _ _ q n (Nat.le_refl _) (Nat.le_refl _)
      have k1 := same21 n V1 V0 _ _ _ wr (by omega) hLn (rd1.kept hB) (rd0.kept hB)
      obtain ⟨r4a, r4b⟩ := hR4.kept hB
      obtain ⟨r5a, r5b⟩ := hR5.kept hB
      have nm0 : (0 : Int) ≤ (n : Int) := by omega
      have nm1 : (n : Int) < (m : Int) := by have := HM.out; omega
      clear d2
      go_wp2_with fail
      refine k1.mono ?_
      rintro e Z1 ⟨rfl, hb1⟩
      have hBZ1 := hB.trans (hb1.mono hB.size)
      have k2 := same21 n V2 V0 _ _ _ Z1 (by omega) hLn (rd2.kept hBZ1) (rd0.kept hBZ1)
      clear k1 r4a r4b r5a r5b d2'
      obtain ⟨r4a, r4b⟩ := hR4.kept hBZ1
      obtain ⟨r6a, r6b⟩ := hR6.kept hBZ1
      go_wp2_with fail
      refine k2.mono ?_
      rintro e Z2 ⟨rfl, hb2⟩
      have hBZ := hBZ1.trans (hb2.mono hBZ1.size)
      clear k2 r4a r4b r6a r6b hb1 hb2 hBZ1 hB nm0 nm1 i0
      go_wp2_with fail
      go_loopw [9, 10] (fun sv iv wr => ∃ i : Nat, i ≤ n ∧ iv = .int .i64 i ∧ OwnK snE wr Z2.heap.size sv ((l.take i).map Rw.sn) ∧ Below Z2.heap.size Z2 wr) (fun _ iv _ => n - (intOf iv).toNat)
      case atStart => exact ⟨0, by omega, rfl, OwnK.nil _ _ _, Below.refl _ _⟩
      case round =>
        obtain ⟨i, hi, rfl, hO, hB⟩ := hrel
        by_cases hlt : i < n
        · obtain ⟨r, hr⟩ : ∃ r, l[i]? = some r := ⟨_, List.getElem?_eq_getElem (by omega)⟩
          obtain ⟨g, o, e9, -, -, q3, q4⟩ := rwE_rg (((hl1.kept hX3).kept hBZ).kept hB) i r hr
          subst e9
          have i0 : (i : Int) < (n : Int) := by omega
          have i1 : (0 : Int) ≤ (i : Int) := by omega
          have bC := below_alloc wr (.cells (snA r.sn) 37)
          obtain ⟨g', c', w', hra, hO2, -, hg, -⟩ := run_app1K snE_ok (wr.alloc (.cells (snA r.sn) 37)) Z2.heap.size wr.heap.size u9 ((l.take i).map Rw.sn) r.sn 32 (hO.keep bC) (sn_litr wr r.sn) (by simp) (by rw [List.length_map, List.length_take]; show (min i l.length + 1) * 40 ≤ _; omega) (by rw [List.length_map, List.length_take]; unfold maxLen; omega) (Nat.le_trans hB.size bC.size)
          have e9 : (l.take i).map Rw.sn ++ [r.sn] = (l.take (i + 1)).map Rw.sn := by rw [take_snoc hr, List.map_append, List.map_singleton]
          rw [e9] at hO2
          have HO : Hid (OwnK snE w' Z2.heap.size (.slice (some ⟨g', 0, none⟩) (((l.take i).map Rw.sn).length + 1) c') ((l.take (i + 1)).map Rw.sn)) := hO2
          have HB : Hid _ := (hB.trans (bC.mono hB.size)).trans ((hO.keep bC).below hg (Nat.le_trans hB.size bC.size))
          have HI : Hid (i < n) := hlt
          have hra' : (Builtin.append_ #[32, 32] 32 #[u9, .slice (some ⟨wr.heap.size, 0, none⟩) 1 1]).run Try.prog (wr.alloc (.cells (snA r.sn) 37)) = .ok (.slice (some ⟨g', 0, none⟩) (((l.take i).map Rw.sn).length + 1) c') w' := hra
          generalize ((l.take i).map Rw.sn).length + 1 = m9 at HO hra'
          clear hra hO hB hO2 bC hg hr e9 hlt hi hBZ rd0 rd1 rd2 hLn hl1 hX3
          go_wp2_with (at_builtin; refine wpL_appR 32 rfl _ _ rfl _ w' (by exact hra') ?_)
          go_roundw
          case rel => first | exact ⟨i + 1, by have := HI.out; omega, by go_num, HO.out, HB.out⟩ | ((repeat apply Exists.intro); refine ⟨⟨i + 1, by have := HI.out; omega, ?_, HO.out, HB.out⟩, rfl⟩; go_num)
          case measure => have := HI.out; simp [intOf]; omega
        · obtain rfl : n = i := by omega
          have i0 : ¬ (n : Int) < (n : Int) := by omega
          have htk : l.take n = l := by rw [← hn, List.take_length]
          rw [htk] at hO
          obtain ⟨xl, cl, rfl⟩ := hO.form9
          have hlen : (l.map Rw.sn).length = n := by rw [List.length_map]; exact hn
          have hss : ∀ s ∈ l.map Rw.sn, s.ok := fun s hs' => by
            obtain ⟨r, hr, rfl⟩ := List.mem_map.1 hs'
            exact hs r hr
          rw [hlen] at hO ⊢
          have hx := hO.isK snE_ok
          obtain ⟨b0, hb0⟩ : ∃ q, isS (l.map Rw.sn) = q := ⟨_, rfl⟩
          obtain ⟨s, hsd⟩ : ∃ q, l.map Rw.sn = q := ⟨_, rfl⟩
          rw [hsd] at hx hlen hss hb0
          have bA := below_alloc wr (.cells #[] 37)
          obtain ⟨y, c', zB, hrB, hOB, hbB⟩ := run_copyK snE_ok (wr.alloc (.cells #[] 37)) (.slice (some ⟨wr.heap.size, 0, none⟩) 0 0) xl cl s wr.heap.size 32 (ownK_lit0 wr) bA.size (by rw [hlen]; exact hx.kept bA) (by rw [hlen]; show n * 40 ≤ _; omega) (by rw [hlen]; unfold maxLen; omega)
          rw [hlen] at hrB hOB
          have bB := below_alloc zB (.cells (snA ⟨77, 0, dg_secZ⟩) 37)
          obtain ⟨g', c2, zD, hrD, hOD, -, hgD, -⟩ := run_app1K snE_ok (zB.alloc (.cells (snA ⟨77, 0, dg_secZ⟩) 37)) wr.heap.size zB.heap.size (.slice y n c') s ⟨77, 0, dg_secZ⟩ 32 (hOB.keep bB) (sn_litr zB _) (by simp) (by rw [hlen]; show (n + 1) * 40 ≤ _; omega) (by rw [hlen]; unfold maxLen; omega) (Nat.le_trans (Nat.le_trans bA.size hbB.size) bB.size)
          rw [hlen] at hrD hOD
          have bZ1 := (bA.trans (hbB.mono (Nat.le_refl _))).trans (bB.mono (Nat.le_trans bA.size hbB.size))
          have bZ := bZ1.trans (((hOB.keep bB).below hgD bZ1.size).mono (Nat.le_refl _))
          have hc1 : n + 1 ≤ c2 := by
            obtain ⟨cur9, -, -, -, hle, -⟩ := hOD.heap
            exact hle
          have hBD : Below Z2.heap.size Z2 zD := hB.trans (bZ.mono hB.size)
          have hxD := hx.kept bZ
          have HrB : Hid ((Builtin.append_ #[32, 32] 32 #[.slice (some ⟨wr.heap.size, 0, none⟩) 0 0, .slice xl n cl]).run Try.prog (wr.alloc (.cells #[] 37)) = .ok (.slice y n c') zB) := hrB
          have HrD : Hid ((Builtin.append_ #[32, 32] 32 #[.slice y n c', .slice (some ⟨zB.heap.size, 0, none⟩) 1 1]).run Try.prog (zB.alloc (.cells (snA ⟨77, 0, dg_secZ⟩) 37)) = .ok (.slice (some ⟨g', 0, none⟩) (n + 1) c2) zD) := hrD
          clear hrB hrD hOB hbB bA bB bZ1 bZ hgD hx hO hB hlt hi htk
          go_upto_region 21 with (at_builtin; first | refine wpL_appR 32 rfl _ _ rfl _ zB (by exact HrB.out) ?_ | refine wpL_appR 32 rfl _ _ rfl _ zD (by exact HrD.out) ?_)
          clear HrB HrD
          have etk : (s ++ [(⟨77, 0, dg_secZ⟩ : Sn)]).take n = s := by rw [← hlen, List.take_left]
          have hI5 := (hOD.cut snE_ok n (by omega)).isK snE_ok
          rw [etk] at hI5
          have k5 := O.is s (some ⟨g', 0, none⟩) n c2 zD hlen (by omega) hss hI5
          rw [hb0] at k5
          have hc2 : n ≤ c2 := by omega
          have hc3 : (n : Int) ≤ (c2 : Int) := by omega
          clear etk hI5
          go_wp2_with fail
          refine k5.mono ?_
          rintro e W5 ⟨rfl, hb5⟩
          have k6 := refIs21 s xl n cl W5 hlen (by omega) hss (hxD.kept hb5)
          rw [hb0] at k6
          clear k5
          go_wp2_with fail
          refine k6.mono ?_
          rintro e W6 ⟨rfl, hb6⟩
          have hb56 := hb5.trans (hb6.mono hb5.size)
          obtain ⟨g9, o9, e9, -, d0, -, -, -⟩ := snE_cells ((hOD.keep hb56).isK snE_ok) n ⟨77, 0, dg_secZ⟩ (by rw [List.getElem?_append_right (by omega), hlen, Nat.sub_self]; rfl)
          cases e9
          have d0' : W6.cell? ⟨g', n * 34, none⟩ = some (.int .u32 77) := by rw [Nat.zero_add] at d0; exact d0
          have nm0 : (0 : Int) ≤ (n : Int) := by omega
          have nm1 : (n : Int) < (n : Int) + 1 := by omega
          have hB6 := (hBZ.trans (hBD.mono hBZ.size)).trans (hb56.mono (Nat.le_trans hBZ.size hBD.size))
          clear k6 d0 hb56 hb5 hb6 hBD hOD hxD hc1 hc2 hc3 hss hlen hsd hb0 rd0 rd1 rd2 hBZ
          go_wp2_with fail
          clear d0' nm0 nm1 i0
          have hgs : gr < Y3.heap.size := Nat.lt_of_lt_of_le hgr.2 hX3.size
          have hcs' : cur.size = cr * 36 := hcs
          have hmx : m ≤ 3198579280802 := by have := HM.out; omega
          go_loopw [12] (fun iv wr => ∃ i : Nat, i ≤ m ∧ iv = .int .i64 i ∧ Keep [gr] W6 wr ∧ ∃ cc, RowC wr gr cc ∧ cc.size = cr * 36) (fun iv _ => m - (intOf iv).toNat)
          case atStart => exact ⟨0, by omega, rfl, Keep.refl _ _, cur, rowC_heap (by rw [hB6.block gr hgs]; exact hcg3), hcs'⟩
          case round =>
            obtain ⟨i, hi, rfl, hK, cc, ⟨q1, q2⟩, hcc⟩ := hrel
            by_cases hlt : i < m
            · have i0 : (i : Int) < (m : Int) := by omega
              have i1 : (0 : Int) ≤ (i : Int) := by omega
              have hz : i * 36 + 36 ≤ cc.size := by omega
              have HI : Hid (i < m) := hlt
              have HK : Hid (Keep [gr] W6 (wr.setRow gr (layC cc (i * 36) (rwA ⟨true, true, ⟨1, 1, dg_secZ⟩⟩)))) := hK.trans (keep_row21 _ _ _)
              have HR : Hid (∃ c9, RowC (wr.setRow gr (layC cc (i * 36) (rwA ⟨true, true, ⟨1, 1, dg_secZ⟩⟩))) gr c9 ∧ c9.size = cr * 36) := ⟨_, RowC.setRow ⟨q1, q2⟩ _, by rw [layC_size _ _ _ (by rw [rwA_size]; exact hz)]; exact hcc⟩
              clear hK hcc hlt hi hcs hcs' hgs hB6 hLn
              go_wp2_with fail
              go_roundw
              case rel => first | exact ⟨i + 1, by have := HI.out; omega, by go_num, HK.out, HR.out⟩ | ((repeat apply Exists.intro); refine ⟨⟨i + 1, by have := HI.out; omega, ?_, HK.out, HR.out⟩, rfl⟩; go_num)
              case measure => have := HI.out; simp [intOf]; omega
            · obtain rfl : m = i := by omega
              have i0 : ¬ (m : Int) < (m : Int) := by omega
              have hG7 := (hG.later hB6).ahead jT (show gr < Y1.heap.size by omega) hK
              have hG8 := ga_other (hG0.later hB6) hgr.2 hK
              obtain ⟨rd1, rd2⟩ := t0_rd hG7 j0 j8 j9 j10 j11
              have rd0 := ga21_rd hG8
              have s4 := (hR4.kept hB6).keepsF hK (by simpa using hn4)
              have s5 := (hR5.kept hB6).keepsF hK (by simpa using hn5)
              have s6 := (hR6.kept hB6).keepsF hK (by simpa using hn6)
              have hwY : w.heap.size ≤ Y1.heap.size := Nat.le_trans hB1.size hY1
              have hBw : Below w.heap.size w wr := (hBY.trans (hB6.mono hBY.size)).trans (hK.below (fun q hq => by rw [List.mem_singleton] at hq; have := hB0.size; have := hgr.1; omega) (Nat.le_trans hBY.size hB6.size))
              have k7 := same21 n V1 V0 _ _ _ wr (by omega) hLn rd1 rd0
              clear hK q1 q2 hcc hlt hi hcs hcs' hgs hB6 hG8 hcg3
              obtain ⟨a4, b4⟩ := s4
              obtain ⟨a5, b5⟩ := s5
              go_wp2_with fail
              refine k7.mono ?_
              rintro e W7 ⟨rfl, hb7⟩
              have k8 := same21 n V2 V0 _ _ _ W7 (by omega) hLn (rd2.kept hb7) (rd0.kept hb7)
              have s4 := RowC.kept ⟨a4, b4⟩ hb7
              have s5 := RowC.kept ⟨a5, b5⟩ hb7
              clear k7 a4 b4 a5 b5
              obtain ⟨a4, b4⟩ := s4
              obtain ⟨a6, b6⟩ := s6.kept hb7
              go_wp2_with fail
              refine k8.mono ?_
              rintro e W8 ⟨rfl, hb8⟩
              have k9 := apart21 Y1.heap.size n V1 V2 _ _ _ _ _ T0 W8 ((hG7.later hb7).later hb8) j0 j8 j9 j10 j11 (by omega) (fun m => by rw [iF_len]; split <;> exact Nat.le_trans (hLn _) (by omega)) (bF_len _ _) (bF_len _ _)
              have s6 := RowC.kept ⟨a6, b6⟩ hb8
              clear k8 a4 b4 a6 b6
              obtain ⟨a5, b5⟩ := s5.kept hb8
              obtain ⟨a6, b6⟩ := s6
              go_wp2_with fail
              refine k9.mono ?_
              rintro e W9 ⟨rfl, hb9⟩
              have HB : Hid (Below w.heap.size w W9) := ((hBw.trans (hb7.mono hBw.size)).trans (hb8.mono (Nat.le_trans hBw.size hb7.size))).trans (hb9.mono hwY)
              clear k9 a5 b5 a6 b6
              go_wp2_with fail
              go_ret
              exact ⟨rfl, HB.out⟩
end Go.Proofs.Ytligjfofnafjeaa
