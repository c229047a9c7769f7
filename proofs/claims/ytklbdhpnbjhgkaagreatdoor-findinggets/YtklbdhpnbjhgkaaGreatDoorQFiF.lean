import Derived.Test.YtklbdhpnbjhgkaaGreatDoorQFin3
import Derived.Test.YtklbdhpnbjhgkaaGreatDoorQRelk
namespace Go.Proofs.YtklbdhpnbjhgkaaGreatDoor
open Go.RowKit Go.Extern.Stop Go.Stop Go.Extern

/-! errors.Is at an Errno; the law's fault -/
theorem eqIface22 (w : World) (d : Nat) (a b : Int) : (Op.equalIn (d + 2) 35 (.iface 38 (.int .i64 a)) (.iface 38 (.int .i64 b))).run Tryz.prog w = .ok (a == b) w := by
  have hc : (Tryz.prog.info? 38).map (·.comparable) = some true := by kernel_rfl
  obtain ⟨i, hi, hcmp⟩ := Option.map_eq_some_iff.1 hc
  simp [Op.equalIn, run_underlying Tryz.underlying35, run_underlying Tryz.underlying38, typeInfo, hi, hcmp]
theorem eqlIface22 (w : World) (a b : Int) : (binOp .eql 35 (.iface 38 (.int .i64 a)) (.iface 38 (.int .i64 b))).run Tryz.prog w = .ok (.bool (a == b)) w := by
  simp only [binOp]
  simp [Op.equal, Op.maxDepth, eqIface22 w 9998 a b]
def rlCmp : Array Value → Sem Value := ReflectliteType.method fun t => do Rtype.noPackHeld "Comparable" t; pure (.bool (← typeInfo t).comparable)
theorem rl_comparableEN (w : World) : (rlCmp #[.agg #[.pointer (some ⟨5, 38, none⟩)]]).run Tryz.prog w = .ok (.bool true) w := by kernel_rfl
theorem rl_noIsP1 (v : Value) (xT : TypeId) (w : World) : (Instr.typeAssert (.iface 52 v) xT 157 true).run Tryz.prog w = .ok (.tuple #[.nilIface, .bool false]) w := run_typeAssert_lacksB Tryz.underlying157 (by kernel_rfl) (by kernel_rfl) v xT w
theorem rl_hasUnwrapP1 (v : Value) (xT : TypeId) (w : World) : (Instr.typeAssert (.iface 52 v) xT 153 true).run Tryz.prog w = .ok (.tuple #[.iface 52 v, .bool true]) w := run_typeAssert_hasB Tryz.underlying153 (by kernel_rfl) v xT w
theorem rl_methodUnwrap (v : Value) (w : World) : (Go.method 317 52 v "Unwrap").run Tryz.prog w = .ok (21, v) w := by kernel_rfl
theorem rl_methodError (v : Value) (w : World) : (Go.method 317 52 v "Error").run Tryz.prog w = .ok (20, v) w := by kernel_rfl
set_option maxRecDepth 100000 in
set_option maxHeartbeats 4000000 in
theorem is_hit (q : Nat) (a c : Int) (w : World) (hR : RowC w q (ftA a c)) :
    Calls Tryz.prog 32 #[.iface 52 (.pointer (some ⟨q, 0, none⟩)), .iface 38 (.int .i64 c)] w fun e w' => e = .returned (.bool true) ∧ w' = w := by
  have h10 := @run_callFunc_extern Tryz.prog 67 _ ReflectliteType.typeOf Tryz.func67 (by kernel_rfl) (by kernel_rfl) (by kernel_rfl) (by kernel_rfl)
  have h39 := @run_callFunc_extern Tryz.prog 147 _ rlCmp Tryz.func147 (by kernel_rfl) (by kernel_rfl) (by kernel_rfl) (by kernel_rfl)
  have tT := rl_typeOfEN
  have cT := rl_comparableEN
  have mR := rl_methodComparable
  have nE := rl_noIsP1
  have uE := rl_hasUnwrapP1
  have mU := rl_methodUnwrap
  have heq := eqlIface22 w c c
  have hcc : (c == c) = true := by simp
  rw [hcc] at heq
  have hty := run_eql_iface_types (P := Tryz.prog) 52 38 (.pointer (some ⟨q, 0, none⟩)) (.int .i64 c) Tryz.underlying35 (by decide) w
  have c1 : w.cell? ⟨q, 1, none⟩ = some (.int .i64 c) := by rw [hR.cell]; rfl
  clear hR hcc
  go_enter Tryz.func32, Tryz.ntmps32
  go_wp2
  refine wp_loop_rounds 2 ?_
  rw [rounds_succ]
  go_wp2
  rw [rounds_succ]
  go_wp2
  go_ret
  exact ⟨rfl, rfl⟩
theorem fault_nil (w : World) : Calls Tryz.prog 14 #[.nilIface] w fun e w' => e = .returned (.tuple #[.int .i64 0, .int .i64 0]) ∧ w' = w := by
  go_enter Tryz.func14, Tryz.ntmps14
  go_wp2
  go_ret2
  exact ⟨rfl, rfl⟩
set_option linter.unusedSimpArgs false in
set_option maxRecDepth 100000 in
set_option maxHeartbeats 4000000 in
theorem fault22 (q : Nat) (a c : Int) (w : World) (hE : ETy w) (hR : RowC w q (ftA a c)) : Calls Tryz.prog 14 #[.iface 52 (.pointer (some ⟨q, 0, none⟩))] w fun e w' => e = .returned (.tuple #[.int .i64 a, .int .i64 c]) ∧ Below w.heap.size w w' := by
  have b0 := below_alloc w (.cells #[.pointer none] 52)
  have hA := as_hit ⟨q, 0, none⟩ ⟨w.heap.size, 0, none⟩ (.pointer none) (w.alloc (.cells #[.pointer none] 52)) (hE.later b0) (by simp) (by simp)
  have hq := hR.lt
  have bb : ∀ W o, Below w.heap.size w W → Below w.heap.size w (W.alloc o) := fun W o h => h.alloc h.size o
  have b9 : Below w.heap.size w (((((( w.alloc (.cells #[.pointer none] 52)).alloc (.cells #[.pointer (some ⟨w.heap.size, 0, none⟩)] 69)).alloc (.cells #[.pointer (some ⟨5, 69, none⟩), .pointer (some ⟨(w.alloc (.cells #[.pointer none] 52)).heap.size, 0, none⟩), .int .u64 150] 110)).alloc (.cells #[.pointer (some ⟨5, 69, none⟩), .pointer (some ⟨(w.alloc (.cells #[.pointer none] 52)).heap.size, 0, none⟩), .int .u64 150] 110)).alloc (.cells #[.pointer (some ⟨q, 0, none⟩)] 52)).setCell ⟨w.heap.size, 0, none⟩ (.pointer (some ⟨q, 0, none⟩))) :=
    (bb _ _ (bb _ _ (bb _ _ (bb _ _ (bb _ _ (Below.refl _ _)))))).setCell (Nat.le_refl _) _
  obtain ⟨Y, hY⟩ : ∃ Y, (((((( w.alloc (.cells #[.pointer none] 52)).alloc (.cells #[.pointer (some ⟨w.heap.size, 0, none⟩)] 69)).alloc (.cells #[.pointer (some ⟨5, 69, none⟩), .pointer (some ⟨(w.alloc (.cells #[.pointer none] 52)).heap.size, 0, none⟩), .int .u64 150] 110)).alloc (.cells #[.pointer (some ⟨5, 69, none⟩), .pointer (some ⟨(w.alloc (.cells #[.pointer none] 52)).heap.size, 0, none⟩), .int .u64 150] 110)).alloc (.cells #[.pointer (some ⟨q, 0, none⟩)] 52)).setCell ⟨w.heap.size, 0, none⟩ (.pointer (some ⟨q, 0, none⟩))) = Y := ⟨_, rfl⟩
  have d0 : Y.cell? ⟨w.heap.size, 0, none⟩ = some (.pointer (some ⟨q, 0, none⟩)) := by
    rw [← hY]
    have r0 : RowC (((((w.alloc (.cells #[.pointer none] 52)).alloc (.cells #[.pointer (some ⟨w.heap.size, 0, none⟩)] 69)).alloc (.cells #[.pointer (some ⟨5, 69, none⟩), .pointer (some ⟨(w.alloc (.cells #[.pointer none] 52)).heap.size, 0, none⟩), .int .u64 150] 110)).alloc (.cells #[.pointer (some ⟨5, 69, none⟩), .pointer (some ⟨(w.alloc (.cells #[.pointer none] 52)).heap.size, 0, none⟩), .int .u64 150] 110)).alloc (.cells #[.pointer (some ⟨q, 0, none⟩)] 52)) w.heap.size #[.pointer none] := ((((RowC.new w #[.pointer none] 52).kept (below_alloc _ _)).kept (below_alloc _ _)).kept (below_alloc _ _)).kept (below_alloc _ _)
    have := r0.set 0 (.pointer (some ⟨q, 0, none⟩))
    rw [this.cell]; rfl
  rw [hY] at hA b9
  have hRY := hR.kept b9
  have d1 : Y.cell? ⟨q, 0, none⟩ = some (.int .i64 a) := by rw [hRY.cell]; rfl
  have d2 : Y.cell? ⟨q, 1, none⟩ = some (.int .i64 c) := by rw [hRY.cell]; rfl
  have hI := is_hit q a c Y hRY
  clear hY hRY bb hR hE b0 hq
  obtain ⟨z, hz⟩ : ∃ z, w.heap.size = z := ⟨_, rfl⟩
  have HB : Hid (Below w.heap.size w Y) := b9
  rw [hz] at d0 hA
  clear b9
  go_enter Tryz.func14, Tryz.ntmps14
  go_wp2_with fail
  refine hA.mono ?_
  rintro e w1 ⟨rfl, rfl⟩
  clear hA
  go_wp2_with fail
  refine hI.mono ?_
  rintro e w2 ⟨rfl, rfl⟩
  clear hI
  go_upto_region 6 with fail
  refine wp_reliesC [Fx (.pointer (some ⟨q, 0, none⟩)), Fx (.pointer (some ⟨q, 0, none⟩)), Fx (.pointer (some ⟨q, 0, none⟩)), Fx (.int .i64 a), Fx (.pointer (some ⟨q, 0, none⟩)), Fx (.pointer (some ⟨q, 0, none⟩)), Fx (.pointer (some ⟨q, 1, none⟩)), Fx (.int .i64 c), Fx (.int .i64 a)] (by kernel_rfl) (by kernel_rfl) ?_ ?_ ?_
  · repeat' (first | exact all_nil | apply all_cons)
    all_goals intro v y y' hv hb
    all_goals first | exact Fx_mono _ _ _ _ hv hb
  · refine ⟨?_, ?_, ?_, ?_, ?_, ?_, ?_, ?_, ?_, trivial⟩
    all_goals
      intro ρ y9 hp ρc ρg ρf ho hd
      have o4 : ρ (.tmp 4) = .pointer (some ⟨z, 0, none⟩) := ho 4 rfl
      clear ho
      replace d0 := cell_later hp d0
      replace d1 := cell_later hp d1
      replace d2 := cell_later hp d2
      simp only [depsR, depR, slotR, Fx, List.getElem?_cons_succ, List.getElem?_cons_zero, Region.binds, forall_const] at hd
      simp only [guardR]
      go_split_ands
    · go_simp
    · go_simp
    · go_simp
    · go_simp
    · go_simp
    · go_simp
    · go_simp
    · go_simp
    · go_simp
  · intro us x1 hp1 hw
    simp only [owed, Fx] at hw
    obtain ⟨e0, e1, e2, e3, e4, e5, e6, e7, e8, -⟩ := hw
    simp only [List.length_cons, List.length_nil, List.take_succ_cons, List.take_zero, List.drop_succ_cons, List.drop_zero, asg, List.cons_append, List.nil_append, e0, e1, e2, e3, e4, e5, e6, e7, e8]
    clear e0 e1 e2 e3 e4 e5 e6 e7 e8
    have HB2 : Hid (Below w.heap.size w x1) := HB.out.trans (hp1.mono HB.out.size)
    clear hp1 d0 d1 d2 hz
    go_wp2
    go_ret2
    exact ⟨rfl, HB2.out⟩
/-! The known fault's text -/
theorem itoa3 (w : World) : Calls Tryz.prog 37 #[.int .i64 3] w fun e w' => e = .returned (.string ⟨#[51]⟩) ∧ w' = w := by
  go_enter Tryz.func37, Tryz.ntmps37
  go_wp2
  go_ret
  exact ⟨rfl, rfl⟩
theorem itoa1 (w : World) : Calls Tryz.prog 37 #[.int .i64 1] w fun e w' => e = .returned (.string ⟨#[49]⟩) ∧ w' = w := by
  go_enter Tryz.func37, Tryz.ntmps37
  go_wp2
  go_ret
  exact ⟨rfl, rfl⟩
theorem errno1 (w : World) : Calls Tryz.prog 19 #[.int .i64 1] w fun e w' => e = .returned (.string ⟨#[101, 114, 114, 111, 114, 32, 49]⟩) ∧ w' = w := by
  have h := itoa1 w
  go_enter Tryz.func19, Tryz.ntmps19
  go_wp2_with fail
  refine h.mono ?_
  rintro e w1 ⟨rfl, rfl⟩
  go_wp2
  go_ret
  exact ⟨rfl, rfl⟩
set_option linter.unusedSimpArgs false in
set_option maxHeartbeats 1600000 in
set_option maxRecDepth 100000 in
theorem error31 (q : Nat) (w : World) (hR : RowC w q (ftA 3 1)) : Calls Tryz.prog 20 #[.pointer (some ⟨q, 0, none⟩)] w fun e w' => e = .returned (.string ⟨#[102, 105, 110, 100, 105, 110, 103, 58, 32, 97, 116, 32, 51, 58, 32, 101, 114, 114, 111, 114, 32, 49]⟩) ∧ Below w.heap.size w w' := by
  have d1 : w.cell? ⟨q, 0, none⟩ = some (.int .i64 3) := by rw [hR.cell]; rfl
  have d2 : w.cell? ⟨q, 1, none⟩ = some (.int .i64 1) := by rw [hR.cell]; rfl
  clear hR
  go_enter Tryz.func20, Tryz.ntmps20
  go_upto_region 3 with fail
  refine wp_relies [Fx (.pointer (some ⟨q, 0, none⟩)), Fx (.pointer (some ⟨q, 0, none⟩)), Fx (.pointer (some ⟨q, 0, none⟩)), Fx (.int .i64 3), Fx (.string ⟨#[51]⟩), Fx (.string ⟨#[102, 105, 110, 100, 105, 110, 103, 58, 32, 97, 116, 32, 51]⟩), Fx (.string ⟨#[102, 105, 110, 100, 105, 110, 103, 58, 32, 97, 116, 32, 51, 58, 32]⟩), Fx (.pointer (some ⟨q, 0, none⟩)), Fx (.pointer (some ⟨q, 0, none⟩)), Fx (.pointer (some ⟨q, 1, none⟩)), Fx (.int .i64 1), Fx (.string ⟨#[101, 114, 114, 111, 114, 32, 49]⟩), Fx (.string ⟨#[102, 105, 110, 100, 105, 110, 103, 58, 32, 97, 116, 32, 51, 58, 32, 101, 114, 114, 111, 114, 32, 49]⟩)] (by kernel_rfl) (by kernel_rfl) ?_ ?_ ?_
  · repeat' (first | exact all_nil | apply all_cons)
    all_goals intro v y y' hv hb
    all_goals first | exact Fx_mono _ _ _ _ hv hb
  · refine ⟨?_, ?_, ?_, ?_, ?_, ?_, ?_, ?_, ?_, ?_, ?_, ?_, ?_, trivial⟩
    all_goals
      intro ρ y9 hp ρc ρg ρf ho hd
      have o0 : ρ (.tmp 0) = .pointer (some ⟨q, 0, none⟩) := ho 0 rfl
      clear ho
      replace d1 := cell_later hp d1
      replace d2 := cell_later hp d2
      simp only [depsR, depR, slotR, Fx, List.getElem?_cons_succ, List.getElem?_cons_zero, Region.binds, forall_const] at hd
      simp only [guardR]
      go_split_ands
    · go_simp
    · go_simp
    · go_simp
    · go_simp
    · go_simp
      exact (itoa3 _).mono fun e w' ⟨h1, h2⟩ => by subst h2; exact ⟨_, h1, rfl, Below.refl _ _⟩
    · go_simp
      try rfl
    · go_simp
      try rfl
    · go_simp
    · go_simp
    · go_simp
    · go_simp
    · go_simp
      exact (errno1 _).mono fun e w' ⟨h1, h2⟩ => by subst h2; exact ⟨_, h1, rfl, Below.refl _ _⟩
    · go_simp
      try rfl
  · intro us x1 hp1 hw
    simp only [owed, Fx] at hw
    obtain ⟨e0, e1, e2, e3, e4, e5, e6, e7, e8, e9, e10, e11, e12, -⟩ := hw
    simp only [List.length_cons, List.length_nil, List.take_succ_cons, List.take_zero, List.drop_succ_cons, List.drop_zero, asg, List.cons_append, List.nil_append, e0, e1, e2, e3, e4, e5, e6, e7, e8, e9, e10, e11, e12]
    clear e0 e1 e2 e3 e4 e5 e6 e7 e8 e9 e10 e11 e12
    go_wp2
    go_ret
    exact ⟨rfl, hp1⟩
theorem error_nil (w : World) : Calls Tryz.prog 20 #[.pointer none] w fun e w' => e = .returned (.string ⟨#[]⟩) ∧ w' = w := by
  go_enter Tryz.func20, Tryz.ntmps20
  go_wp2
  go_ret
  exact ⟨rfl, rfl⟩
theorem unwrap_nil (w : World) : Calls Tryz.prog 21 #[.pointer none] w fun e w' => e = .returned .nilIface ∧ w' = w := by
  go_enter Tryz.func21, Tryz.ntmps21
  go_wp2
  go_ret
  exact ⟨rfl, rfl⟩
end Go.Proofs.YtklbdhpnbjhgkaaGreatDoor
