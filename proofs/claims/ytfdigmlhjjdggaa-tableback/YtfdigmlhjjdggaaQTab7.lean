import Derived.Test.YtfdigmlhjjdggaaQTab6
namespace Go.Proofs.Ytfdigmlhjjdggaa
open Go.RowKit

/-! What table owes; assaylaw17's same, known -/
structure TabOk : Prop where
  pt : ∀ (nm : ByteArray) (key : Nat → UInt8) (w : World), nm.size ≤ 9223372036854775807 → Calls Try.prog 9 #[.agg (tgA ⟨nm, key⟩)] w fun r w' => r = .returned (.tuple #[.agg (secA (ptS (lS nm) key)), .int .i64 (ptE (lS nm))]) ∧ Below w.heap.size w w'
  gt : ∀ (s : Sc) (w : World), Calls Try.prog 12 #[.agg (secA s)] w fun e w' => GtP s w e w'
  ps : ∀ (a b : Nat) (key : Nat → UInt8) (w : World), a < 4294967296 → b < 4294967296 → Calls Try.prog 10 #[.agg (snA ⟨(a : Int), (b : Int), key⟩)] w fun r w' => r = .returned (.tuple #[.agg (secA (psS a b key)), .int .i64 (psE a)]) ∧ Below w.heap.size w w'
  gs : ∀ (s : Sc) (w : World), Calls Try.prog 13 #[.agg (secA s)] w fun e w' => GsP s w e w'
  pc : ∀ (l : List Nat) (x : Option Addr) (n c : Nat) (w : World), l.length = n → n ≤ c → n ≤ 140737488355328 → (∀ (i : Nat) (v : Nat), l[i]? = some v → v < 4294967296) → IsG w (.slice x n c) (uV l) → Calls Try.prog 11 #[.slice x n c] w fun r w' => r = .returned (.tuple #[.agg (secA (pcS l)), .int .i64 (pcE l)]) ∧ Below w.heap.size w w'
  gc : ∀ (s : Sc) (n : Int) (w : World), -9223372036854775808 ≤ n → n ≤ 9223372036854775807 → Calls Try.prog 14 #[.agg (secA s), .int .i64 n] w fun e w' => GcP s n w e w'
set_option linter.unusedSimpArgs false in
set_option maxRecDepth 100000 in
set_option maxHeartbeats 1600000 in
theorem same17_any (l : List Nat) (xa xb : Option Addr) (n ca cb : Nat) (w : World) (hn : l.length = n) (hA : IsG w (.slice xa n ca) (uV l)) (hB : IsG w (.slice xb n cb) (uV l)) (h63 : n ≤ 4611686018427387904) : Calls Try.prog 15 #[.slice xa n ca, .slice xb n cb] w fun e w' => e = .returned (.bool true) ∧ Below w.heap.size w w' := by
  go_enter Try.func15, Try.ntmps15
  go_wp2_with fail
  go_loopw [5] (fun iv wr => ∃ k : Nat, k ≤ n ∧ iv = .int .i64 k ∧ Below w.heap.size w wr) (fun iv _ => n - (intOf iv).toNat)
  case atStart => exact ⟨0, by omega, rfl, Below.refl _ _⟩
  case round =>
    obtain ⟨k, hk, rfl, hBw⟩ := hrel
    by_cases hlt : k < n
    · have i0 : (0 : Int) ≤ (k : Int) := by omega
      have i1 : (k : Int) < (n : Int) := by omega
      obtain ⟨v, hv⟩ : ∃ d, l[k]? = some d := ⟨_, List.getElem?_eq_getElem (by omega)⟩
      obtain ⟨ga, oa, rfl, -, hca9⟩ := (hA.kept hBw).spot k (by rw [uV_len]; omega)
      obtain ⟨gb, ob, rfl, -, hcb9⟩ := (hB.kept hBw).spot k (by rw [uV_len]; omega)
      have hca := hca9 k _ (uV_get l k v hv)
      have hcb := hcb9 k _ (uV_get l k v hv)
      have FK : Hid ((0 : Int) ≤ (k : Int) ∧ (k : Int) < (n : Int)) := ⟨i0, i1⟩
      clear hv hca9 hcb9
      go_upto_region 6 with fail
      refine wp_relies [Fx (.slice (some ⟨ga, oa, none⟩) n ca), Fx (.int .i64 (k : Int)), Fx (.pointer (some ⟨ga, oa + k, none⟩)), Fx (.int .u32 (v : Int)), Fx (.slice (some ⟨gb, ob, none⟩) n cb), Fx (.int .i64 (k : Int)), Fx (.pointer (some ⟨gb, ob + k, none⟩)), Fx (.int .u32 (v : Int)), Fx (.bool false)] (by kernel_rfl) (by kernel_rfl) ?_ ?_ ?_
      · repeat' (first | exact all_nil | apply all_cons)
        all_goals intro v y y' hv hb
        all_goals first | exact Fx_mono _ _ _ _ hv hb
      · refine ⟨?_, ?_, ?_, ?_, ?_, ?_, ?_, ?_, ?_, trivial⟩
        all_goals
          intro ρ x hp ρc ρg ρf ho hd
          have o0 : ρ (.tmp 0) = .slice (some ⟨ga, oa, none⟩) n ca := ho 0 rfl
          have o1 : ρ (.tmp 1) = .slice (some ⟨gb, ob, none⟩) n cb := ho 1 rfl
          have o5 : ρ (.tmp 5) = .int .i64 (k : Int) := ho 5 rfl
          clear ho
          have c1 := cell_later hp hca
          have c2 := cell_later hp hcb
          simp only [depsR, depR, slotR, Fx, List.getElem?_cons_succ, List.getElem?_cons_zero, Region.binds, forall_const] at hd
          simp only [guardR]
          go_split_ands
        · go_simp
        · go_simp
        · obtain ⟨z1, z2⟩ := FK.out
          go_simp
        · go_simp
        · go_simp
        · go_simp
        · obtain ⟨z1, z2⟩ := FK.out
          go_simp
        · go_simp
        · go_simp
      · intro vs x1 hp hw
        simp only [owed, Fx] at hw
        obtain ⟨e0, e1, e2, e3, e4, e5, e6, e7, e8, -⟩ := hw
        simp only [List.length_cons, List.length_nil, List.take_succ_cons, List.take_nil, List.drop_succ_cons, List.drop_nil, asg, List.cons_append, List.nil_append, e0, e1, e2, e3, e4, e5, e6, e7, e8]
        clear e0 e1 e2 e3 e4 e5 e6 e7 e8
        have HB : Hid _ := hBw.trans (hp.mono hBw.size)
        clear hp hBw hca hcb vs
        go_wp2
        go_roundw
        case rel => exact ⟨k + 1, by omega, by go_num, HB.out⟩
        case measure => simp [intOf]; omega
    · obtain rfl : n = k := by omega
      have i0 : ¬ (n : Int) < (n : Int) := by omega
      go_wp2
      go_ret
      exact ⟨rfl, hBw⟩
def dgB1t (x : Value) : Sem Next := do pure (.value (← Instr.build 23 #[(0, x)]))
@[go_sem ↓] theorem execOp_dgB1t (ρ : Operand → Value) (dst : Option Tmp) (ty : TypeId) (pos : String) (after : Array Edge) (guard : Option (Nat × Bool)) (x : Operand) : execOp ρ { dst, op := .build 23 #[(0, x)], type := ty, pos, after, guard } = dgB1t (ρ x) := by
  simp [execOp, dgB1t]
def k7 : Nat → UInt8 := upd dg_secZ 0 7
@[go_sem] theorem run_dgB1t (w : World) : (dgB1t (.int .u8 7)).run Try.prog w = .ok (.value (.agg (dg_secA k7))) w := by
  simp only [dgB1t, Sem.run_bind]
  rw [run_build w 23 #[(0, .int .u8 7)] (dg_secA k7) (by kernel_rfl)]; rfl
theorem known_tag : isN [118, 49] = true := by decide
theorem gc_zero (n : Int) : gcB secZ n = false := by
  cases h : gcB secZ n
  · rfl
  · have h1 := sl_ne (gcB_sl h)
    rw [secEq_iff17.2 rfl] at h1
    cases h1
set_option linter.unusedSimpArgs false in
set_option maxRecDepth 100000 in
set_option maxHeartbeats 3200000 in
theorem known17_any (O : TabOk) (w : World) : Calls Try.prog 8 #[] w fun e w' => e = .returned (.bool true) ∧ Below w.heap.size w w' := by
  have k1 := fun W => O.pt ⟨#[118, 49]⟩ k7 W (by show 2 ≤ _; omega)
  have el : lS ⟨#[118, 49]⟩ = [118, 49] := rfl
  have e1 : ptS [118, 49] k7 = tagS [118, 49] k7 := by unfold ptS; rw [known_tag]; rfl
  have e2 : ptE [118, 49] = 0 := by unfold ptE; rw [known_tag]; rfl
  simp only [el, e1, e2] at k1
  obtain ⟨b1, b2, b3⟩ := tag_back (k := k7) known_tag
  have s0 : tagS [118, 49] k7 0 = 84 := by rw [tagS_low _ _ 0 (by omega)]; rfl
  have s1 : tagS [118, 49] k7 1 = 2 := by rw [tagS_low _ _ 1 (by omega)]; rfl
  have s2 : tagS [118, 49] k7 2 = 118 := by rw [tagS_low _ _ 2 (by omega)]; rfl
  have s26 : tagS [118, 49] k7 26 = 7 := by rw [tagS_low _ _ 26 (by omega)]; rfl
  have k2 := fun W => O.gt (tagS [118, 49] k7) W
  have k3 := fun W => O.gc secZ 3 W (by omega) (by omega)
  have k4 := fun W => O.ps 0 1 dg_secZ W (by omega) (by omega)
  unfold GtP at k2
  unfold GcP at k3
  have g1 : gtL (tagS [118, 49] k7) = [118, 49] := by unfold gtL; rw [b3, b1]; rfl
  have g2 : gtK (tagS [118, 49] k7) = 2 := by unfold gtK; rw [sl_ne (tagS_sl _ _), b3]; rfl
  have g3 : tgEq ⟨⟨#[118, 49]⟩, gtD (tagS [118, 49] k7)⟩ ⟨⟨#[118, 49]⟩, k7⟩ = true := by
    unfold tgEq
    rw [(dg_secEq_iff _ _).2 (fun i hi => by unfold gtD; rw [b3]; exact b2 i hi)]
    simp
  have g4 : gcL secZ 3 = [] := by unfold gcL; rw [gc_zero]; rfl
  simp only [g1, g2] at k2
  simp only [g4, gc_zero] at k3
  have ez : psE 0 = 1 := rfl
  simp only [ez] at k4
  generalize gtD (tagS [118, 49] k7) = D9 at k2 g3
  generalize tagS [118, 49] k7 = S at k1 k2 s0 s1 s2 s26
  generalize psS 0 1 dg_secZ = S9 at k4
  clear b1 b2 b3 g1 g2 g4 e1 e2 el ez
  go_enter Try.func8, Try.ntmps8
  go_wp2_with fail
  refine (k1 _).mono ?_
  rintro e w1 ⟨rfl, hB1⟩
  have bC := below_alloc w1 (.cells (secA S) 35)
  have hS : ScR (w1.alloc (.cells (secA S) 35)) w1.heap.size S := ScR.new _ _ _
  have hB2 := hB1.alloc hB1.size (.cells (secA S) 35)
  clear k1 hB1 bC
  go_upto_region 2 with fail
  generalize w1.alloc (.cells (secA S) 35) = X at hS hB2 ⊢
  generalize w1.heap.size = g at hS ⊢
  have c0 := hS.cell 0 (by omega)
  have c1 := hS.cell 1 (by omega)
  have c2 := hS.cell 2 (by omega)
  have c26 := hS.cell 26 (by omega)
  rw [s0] at c0
  rw [s1] at c1
  rw [s2] at c2
  rw [s26] at c26
  replace c0 : X.cell? ⟨g, 0, none⟩ = some (.int .u8 84) := c0
  replace c1 : X.cell? ⟨g, 1, none⟩ = some (.int .u8 2) := c1
  replace c2 : X.cell? ⟨g, 2, none⟩ = some (.int .u8 118) := c2
  replace c26 : X.cell? ⟨g, 26, none⟩ = some (.int .u8 7) := c26
  obtain ⟨r1, q1⟩ := hS
  clear s0 s1 s2 s26
  go_wp2_with fail
  refine (k2 _).mono ?_
  rintro e w2 ⟨rfl, hb⟩
  have hB3 := hB2.trans (hb.mono hB2.size)
  have hT : RowC (w2.alloc (.cells (tgA ⟨⟨#[118, 49]⟩, D9⟩) 25)) w2.heap.size (tgA ⟨⟨#[118, 49]⟩, D9⟩) := RowC.new _ _ _
  have hB4 := hB3.alloc hB3.size (.cells (tgA ⟨⟨#[118, 49]⟩, D9⟩) 25)
  clear k2 hb hB2 hB3 c0 c1 c2 c26 r1 q1
  go_upto_region 5 with fail
  generalize w2.alloc (.cells (tgA ⟨⟨#[118, 49]⟩, D9⟩) 25) = X2 at hT hB4 ⊢
  generalize w2.heap.size = g3' at hT ⊢
  go_wp2_with fail
  refine (k3 _).mono ?_
  rintro e w3 ⟨⟨v3, rfl, oV⟩, hb⟩
  obtain ⟨xv, cv, rfl⟩ := oV.isG.len
  have hB5 := hB4.trans (hb.mono hB4.size)
  have hT5 := hT.kept hb
  clear k3 hb hB4 hT oV
  go_wp2_with fail
  refine (k4 _).mono ?_
  rintro e w4 ⟨rfl, hb⟩
  have hB6 := hB5.trans (hb.mono hB5.size)
  have hT6 := (hT5.kept hb).kept (below_alloc w4 (.cells (secA S9) 35))
  have hB7 := hB6.alloc hB6.size (.cells (secA S9) 35)
  clear k4 hb hB5 hB6 hT5
  go_upto_region 7 with fail
  generalize w4.alloc (.cells (secA S9) 35) = X3 at hT6 hB7 ⊢
  obtain ⟨r3, q3⟩ := hT6
  go_wp2
  go_ret
  exact ⟨rfl, hB7⟩
end Go.Proofs.Ytfdigmlhjjdggaa
