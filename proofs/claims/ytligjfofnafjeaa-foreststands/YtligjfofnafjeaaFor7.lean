
import Derived.Test.YtligjfofnafjeaaFor6
namespace Go.Proofs.Ytligjfofnafjeaa
open Go.RowKit

/-! What forest owes; assayref21.Is; assaylaw21: ints, rows, row -/
def mkR (s : Sn) : Rw := ⟨true, true, s⟩
def isS (l : List Sn) : Bool := l.all (fun s => !(s.id == 0)) && decide ((Fr.sel (frO (l.map mkR)).twice l.length).length + (Fr.sel (frO (l.map mkR)).noPa l.length).length + (Fr.sel (frO (l.map mkR)).cyc l.length).length = 0)
structure ForOk : Prop where
  of : ∀ (l : List Rw) (x : Option Addr) (n c : Nat) (w : World), l.length = n → n ≤ 3298534883328 → (∀ r ∈ l, r.sn.ok) → IsK rwF w (.slice x n c) l → Calls Try.prog 8 #[.slice x n c] w fun e w' => FoP l w e w'
  is : ∀ (l : List Sn) (x : Option Addr) (n c : Nat) (w : World), l.length = n → n ≤ 3518437208780 → (∀ s ∈ l, s.ok) → IsK snE w (.slice x n c) l → Calls Try.prog 10 #[.slice x n c] w fun e w' => e = .returned (.bool (isS l)) ∧ Below w.heap.size w w'
theorem map_ok {l : List Sn} (h : ∀ s ∈ l, s.ok) : ∀ r ∈ l.map mkR, r.sn.ok := fun r hr => by
  obtain ⟨s, hs, rfl⟩ := List.mem_map.1 hr
  exact h s hs
theorem take_snoc {α : Type} {l : List α} {i : Nat} {d : α} (h : l[i]? = some d) : l.take (i + 1) = l.take i ++ [d] := by rw [List.take_add_one, h]; rfl
theorem wpL_appR {ops : Array Oper} {rest : List Oper} {o : Oper} {a : Act} {w : World} {Q : Exit → Act → World → Prop} (t : TypeId) (hgd : o.guard = none) (s x : Operand)
    (ho : o.op = .call { callee := .builtin .append, args := #[s, x], argTypes := #[t, t] }) (v' : Value) (w' : World) (hr : (Builtin.append_ #[t, t] o.type #[a.eval s, a.eval x]).run Try.prog w = .ok v' w')
    (h : wpList Try.prog ops Q rest (a.put o.dst v') w') : wpList Try.prog ops Q (o :: rest) a w := wpL_appG t hgd s x ho v' w' hr h
theorem OwnK.form9 {α : Type} {E : EK α} {w : World} {B : Nat} {v : Value} {ds : List α} (h : OwnK E w B v ds) : ∃ x c, v = .slice x ds.length c := by
  rcases h.2 with ⟨h1, h2⟩ | ⟨g, cap, cur, h1, -⟩
  · exact ⟨none, 0, by rw [h1, h2]⟩
  · exact ⟨_, _, h1⟩
set_option linter.unusedSimpArgs false in
set_option maxRecDepth 100000 in
set_option maxHeartbeats 4000000 in
theorem refIs21 (l : List Sn) (x : Option Addr) (n c : Nat) (w : World) (hn : l.length = n) (h41 : n ≤ 3198579280802) (hs : ∀ s ∈ l, s.ok) (hl : IsK snE w (.slice x n c) l) :
    Calls Try.prog 14 #[.slice x n c] w fun e w' => e = .returned (.bool (isS l)) ∧ Below w.heap.size w w' := by
  go_enter Try.func14, Try.ntmps14
  go_wp2_with fail
  go_loopw [3, 4] (fun rv iv wr => ∃ i : Nat, i ≤ n ∧ iv = .int .i64 i ∧ (∀ s ∈ l.take i, s.id ≠ 0) ∧ OwnK rwE wr w.heap.size rv ((l.take i).map mkR) ∧ Below w.heap.size w wr) (fun _ iv _ => n - (intOf iv).toNat)
  case atStart => exact ⟨0, by omega, rfl, fun s hs => by simp at hs, OwnK.nil _ _ _, Below.refl _ _⟩
  case round =>
    obtain ⟨i, hi, rfl, hz, hO, hB⟩ := hrel
    by_cases hlt : i < n
    · obtain ⟨r, hr⟩ : ∃ r, l[i]? = some r := ⟨_, List.getElem?_eq_getElem (by omega)⟩
      obtain ⟨g, o, rfl, -, c0, -, k1, k2⟩ := snE_cells (hl.kept hB) i r hr
      have hrs := hs r (List.mem_of_getElem? hr)
      unfold Sn.ok at hrs
      have i0 : (i : Int) < (n : Int) := by omega
      have i1 : (0 : Int) ≤ (i : Int) := by omega
      by_cases h0 : r.id = 0
      · rw [h0] at c0
        have HB : Hid _ := hB
        have HF : Hid (isS l = false) := by
          show _ = _
          unfold isS
          have : l.all (fun s => !(s.id == 0)) = false := by
            rw [List.all_eq_false]
            exact ⟨r, List.mem_of_getElem? hr, by rw [h0]; simp⟩
          rw [this]; rfl
        clear hB hO hz hr hrs hl hs h0 k1 k2 hlt hi
        go_wp2
        go_ret
        exact ⟨by rw [HF.out]; rfl, HB.out⟩
      · have hz9 : (r.id == 0) = false := beq_eq_false_iff_ne.2 h0
        have bC := below_alloc wr (.cells (rwA ⟨true, true, r⟩) 39)
        obtain ⟨g', c', w', hra, hO2, -, hg, -⟩ := run_app1K rwE_ok (wr.alloc (.cells (rwA ⟨true, true, r⟩) 39)) w.heap.size wr.heap.size u3 ((l.take i).map mkR) ⟨true, true, r⟩ 22 (hO.keep bC) (re_litr wr ⟨true, true, r⟩) (by simp) (by rw [List.length_map, List.length_take]; show (min i l.length + 1) * 44 ≤ _; omega) (by rw [List.length_map, List.length_take]; unfold maxLen; omega) (Nat.le_trans hB.size bC.size)
        have e9 : (l.take i).map mkR ++ [⟨true, true, r⟩] = (l.take (i + 1)).map mkR := by rw [take_snoc hr, List.map_append, List.map_singleton]; rfl
        rw [e9] at hO2
        have HO : Hid (OwnK rwE w' w.heap.size (.slice (some ⟨g', 0, none⟩) (((l.take i).map mkR).length + 1) c') ((l.take (i + 1)).map mkR)) := hO2
        have HB : Hid _ := (hB.trans (bC.mono hB.size)).trans ((hO.keep bC).below hg (Nat.le_trans hB.size bC.size))
        have HI : Hid (i < n) := hlt
        have HZ : Hid (∀ s ∈ l.take (i + 1), s.id ≠ 0) := fun s hs' => by
          rw [take_snoc hr, List.mem_append] at hs'
          rcases hs' with h | h
          · exact hz s h
          · rw [List.mem_singleton] at h; rw [h]; exact h0
        have hra' : (Builtin.append_ #[22, 22] 22 #[u3, .slice (some ⟨wr.heap.size, 0, none⟩) 1 1]).run Try.prog (wr.alloc (.cells (rwA ⟨true, true, r⟩) 39)) = .ok (.slice (some ⟨g', 0, none⟩) (((l.take i).map mkR).length + 1) c') w' := hra
        generalize ((l.take i).map mkR).length + 1 = m9 at HO hra'
        clear hra hO hB hO2 bC hg hr hrs h0 hz e9 hlt hi
        go_wp2_with (at_builtin; refine wpL_appR 22 rfl _ _ rfl _ w' (by exact hra') ?_)
        go_roundw
        case rel => first | exact ⟨i + 1, by have := HI.out; omega, by go_num, HZ.out, HO.out, HB.out⟩ | ((repeat apply Exists.intro); refine ⟨⟨i + 1, by have := HI.out; omega, ?_, HZ.out, HO.out, HB.out⟩, rfl⟩; go_num)
        case measure => have := HI.out; simp [intOf]; omega
    · obtain rfl : n = i := by omega
      have i0 : ¬ (n : Int) < (n : Int) := by omega
      have htk : l.take n = l := by rw [← hn, List.take_length]
      rw [htk] at hz hO
      clear htk
      have hx := hO.isK rwE_ok
      obtain ⟨xl, cl, rfl⟩ := hO.form9
      have hlen : (l.map mkR).length = n := by rw [List.length_map]; exact hn
      rw [hlen] at hx ⊢
      have hOf := refOf21 (l.map mkR) xl n cl wr hlen (by omega) (map_ok hs) hx
      have HB0 : Hid _ := hB
      have HZ : Hid (l.all (fun s => !(s.id == 0)) = true) := by
        show _ = _
        rw [List.all_eq_true]
        intro s hs'
        simp [hz s hs']
      clear hB hO hz hx hl hs hlt hi
      go_wp2_with fail
      refine hOf.mono ?_
      rintro e w1 ⟨V, rfl, hF⟩
      rw [hlen] at hF
      clear hOf
      have bC := below_alloc w1 (.cells (foA V) 43)
      have hR := RowC.new w1 (foA V) 43
      have HB : Hid _ := (HB0.out.trans (hF.be.mono HB0.out.size)).trans (bC.mono (Nat.le_trans HB0.out.size hF.be.size))
      obtain ⟨x2, d2, e2⟩ := own_slice (hF.list 2 (by omega) (by omega))
      obtain ⟨x4, d4, e4⟩ := own_slice (hF.list 4 (by omega) (by omega))
      obtain ⟨x5, d5, e5⟩ := own_slice (hF.list 5 (by omega) (by omega))
      rw [iF_len] at e2 e4 e5
      have l2 : (FL (frO (l.map mkR)) n n 2).length ≤ n := FL_len _ _ _ _ _ (by omega) (by omega)
      have l4 : (FL (frO (l.map mkR)) n n 4).length ≤ n := FL_len _ _ _ _ _ (by omega) (by omega)
      have l5 : (FL (frO (l.map mkR)) n n 5).length ≤ n := FL_len _ _ _ _ _ (by omega) (by omega)
      have HS : Hid (isS l = decide ((FL (frO (l.map mkR)) n n 2).length + (FL (frO (l.map mkR)) n n 4).length + (FL (frO (l.map mkR)) n n 5).length = 0)) := by
        show _ = _
        unfold isS
        rw [HZ.out, hn, Bool.true_and]
        rfl
      generalize (FL (frO (l.map mkR)) n n 2).length = a2 at e2 l2 HS
      generalize (FL (frO (l.map mkR)) n n 4).length = a4 at e4 l4 HS
      generalize (FL (frO (l.map mkR)) n n 5).length = a5 at e5 l5 HS
      have c2 := hR.cell 2
      have c4 := hR.cell 4
      have c5 := hR.cell 5
      rw [foA_get V 2 (by omega), e2] at c2
      rw [foA_get V 4 (by omega), e4] at c4
      rw [foA_get V 5 (by omega), e5] at c5
      have q1 : IntKind.i64.wrap ((a2 : Int) + (a4 : Int)) = ((a2 + a4 : Nat) : Int) := by rw [IntKind.wrap_i64]; omega
      have q2 : IntKind.i64.wrap (((a2 + a4 : Nat) : Int) + (a5 : Int)) = ((a2 + a4 + a5 : Nat) : Int) := by rw [IntKind.wrap_i64]; omega
      have q3 : (((a2 + a4 + a5 : Nat) : Int) == 0) = decide (a2 + a4 + a5 = 0) := by
        by_cases h0 : a2 + a4 + a5 = 0
        · rw [h0]; rfl
        · rw [decide_eq_false h0]; exact beq_eq_false_iff_ne.2 (by omega)
      have HQ : Hid (((a2 : Int) + (a4 : Int) + (a5 : Int) == 0) = decide (a2 + a4 + a5 = 0)) := by
        by_cases h0 : a2 + a4 + a5 = 0
        · rw [decide_eq_true h0]; exact beq_iff_eq.2 (by omega)
        · rw [decide_eq_false h0]; exact beq_eq_false_iff_ne.2 (by omega)
      have hon := foA_one' hF
      have zV : (foA V).size = 6 := foA_size _
      go_upto_region 9 with fail
      generalize w1.alloc (.cells (foA V) 43) = Y at HB c2 c4 c5 ⊢
      generalize w1.heap.size = g5 at c2 c4 c5 ⊢
      clear hF hR bC HB0 HZ e2 e4 e5 hon zV
      go_wp2
      go_ret
      refine ⟨?_, HB.out⟩
      rw [HS.out, ← HQ.out]
      rfl
set_option linter.unusedSimpArgs false in
set_option maxRecDepth 100000 in
set_option maxHeartbeats 4000000 in
theorem ints21 (l : List Nat) (xa xb : Option Addr) (n ca cb : Nat) (w : World) (hn : l.length = n) (hA : IsG w (.slice xa n ca) (iF l)) (hB : IsG w (.slice xb n cb) (iF l)) (h62 : n ≤ 4611686018427387904) : Calls Try.prog 17 #[.slice xa n ca, .slice xb n cb] w fun e w' => e = .returned (.bool true) ∧ Below w.heap.size w w' := by
  go_enter Try.func17, Try.ntmps17
  go_wp2_with fail
  go_loopw [5] (fun iv wr => ∃ k : Nat, k ≤ n ∧ iv = .int .i64 k ∧ Below w.heap.size w wr) (fun iv _ => n - (intOf iv).toNat)
  case atStart => exact ⟨0, by omega, rfl, Below.refl _ _⟩
  case round =>
    obtain ⟨k, hk, rfl, hBw⟩ := hrel
    by_cases hlt : k < n
    · have i0 : (0 : Int) ≤ (k : Int) := by omega
      have i1 : (k : Int) < (n : Int) := by omega
      obtain ⟨v, hv⟩ : ∃ d, l[k]? = some d := ⟨_, List.getElem?_eq_getElem (by omega)⟩
      obtain ⟨ga, oa, rfl, -, hca9⟩ := (hA.kept hBw).spot k (by rw [iF_len]; omega)
      obtain ⟨gb, ob, rfl, -, hcb9⟩ := (hB.kept hBw).spot k (by rw [iF_len]; omega)
      have hca := hca9 k _ (iF_get l k v hv)
      have hcb := hcb9 k _ (iF_get l k v hv)
      have FK : Hid ((0 : Int) ≤ (k : Int) ∧ (k : Int) < (n : Int)) := ⟨i0, i1⟩
      clear hv hca9 hcb9
      go_upto_region 6 with fail
      refine wp_relies [Fx (.slice (some ⟨ga, oa, none⟩) n ca), Fx (.int .i64 (k : Int)), Fx (.pointer (some ⟨ga, oa + k, none⟩)), Fx (.int .i64 (v : Int)), Fx (.slice (some ⟨gb, ob, none⟩) n cb), Fx (.int .i64 (k : Int)), Fx (.pointer (some ⟨gb, ob + k, none⟩)), Fx (.int .i64 (v : Int)), Fx (.bool false)] (by kernel_rfl) (by kernel_rfl) ?_ ?_ ?_
      · repeat' (first | exact all_nil | apply all_cons)
        all_goals intro v y y' hv hb
        all_goals first | exact Fx_mono _ _ _ _ hv hb
      · refine ⟨?_, ?_, ?_, ?_, ?_, ?_, ?_, ?_, ?_, trivial⟩
        all_goals
          intro ρ x hp ρc ρg ρf ho hd
          have o0 : ρ (.tmp 0) = .slice (some ⟨ga, oa, none⟩) n ca := ho 0 rfl
          have o1 : ρ (.tmp 1) = .slice (some ⟨gb, ob, none⟩) n cb := ho 1 rfl
          have o5 : ρ (.tmp 5) = .int .i64 (k : Int) := ho 5 rfl
          clear ho
          have c1 := cell_later hp hca
          have c2 := cell_later hp hcb
          simp only [depsR, depR, slotR, Fx, List.getElem?_cons_succ, List.getElem?_cons_zero, Region.binds, forall_const] at hd
          simp only [guardR]
          go_split_ands
        · go_simp
        · go_simp
        · obtain ⟨z1, z2⟩ := FK.out
          go_simp
        · go_simp
        · go_simp
        · go_simp
        · obtain ⟨z1, z2⟩ := FK.out
          go_simp
        · go_simp
        · go_simp
      · intro vs x1 hp hw
        simp only [owed, Fx] at hw
        obtain ⟨e0, e1, e2, e3, e4, e5, e6, e7, e8, -⟩ := hw
        simp only [List.length_cons, List.length_nil, List.take_succ_cons, List.take_nil, List.drop_succ_cons, List.drop_nil, asg, List.cons_append, List.nil_append, e0, e1, e2, e3, e4, e5, e6, e7, e8]
        clear e0 e1 e2 e3 e4 e5 e6 e7 e8
        have HB : Hid _ := hBw.trans (hp.mono hBw.size)
        clear hp hBw hca hcb vs
        go_wp2
        go_roundw
        case rel => exact ⟨k + 1, by omega, by go_num, HB.out⟩
        case measure => simp [intOf]; omega
    · obtain rfl : n = k := by omega
      have i0 : ¬ (n : Int) < (n : Int) := by omega
      go_wp2
      go_ret
      exact ⟨rfl, hBw⟩
theorem rw_bodyPost1 {fn : Func} {R : Ending → World → Prop} {a : Act} {w : World} (p n : Nat) (x : Rw) (hres : fn.results = #[.cell p 39]) (hp : a.tmps.getD p undef = .pointer (some ⟨n, 0, none⟩)) (hd : a.defers = [])
    (hok : RowC w n (rwA x)) (h : R (.returned (.agg (rwA x))) w) : bodyPost Try.prog fn R .ret a w := by
  obtain ⟨t, hg⟩ := row_of_L hok.1
  rw [hok.2] at hg
  have hp' : a.tmps[p]?.getD undef = .pointer (some ⟨n, 0, none⟩) := by simpa using hp
  have hl := run_loadVar_row (P := Try.prog) w n t 39 (rwA x) (0, 0) _ hg Try.underlying39 rfl (by rw [sizeT_re, rwA_size])
  refine bodyPost_ret (v := .agg (rwA x)) ?_ hd h
  simp [results, hres, hp', asAddr, hl]
set_option linter.unusedSimpArgs false in
set_option maxRecDepth 100000 in
set_option maxHeartbeats 4000000 in
theorem row21 (a b : Nat) (w : World) : Calls Try.prog 16 #[.int .u32 (a : Int), .int .u32 (b : Int)] w fun e w' => e = .returned (.agg (rwA ⟨true, true, ⟨a, b, dg_secZ⟩⟩)) ∧ Below w.heap.size w w' := by
  have hB := below_alloc w (.cells (rwA rwZ) 39)
  have hR := RowC.new w (rwA rwZ) 39
  obtain ⟨R, hR9⟩ : ∃ q, rwA ⟨true, true, ⟨a, b, dg_secZ⟩⟩ = q := ⟨_, rfl⟩
  have z9 : R.size = 36 := by rw [← hR9]; exact rwA_size _
  have o9 : OneC R = true := by rw [← hR9]; exact rwA_one _
  have HRR : Hid _ := hR9
  go_enter Try.func16, Try.ntmps16
  go_upto_region 1 with fail
  obtain ⟨g, hg⟩ : ∃ q, w.heap.size = q := ⟨_, rfl⟩
  have HG : Hid (w.heap.size ≤ g) := by show _ ≤ _; omega
  rw [hg] at hR
  simp only [hg]
  generalize w.alloc (.cells (rwA rwZ) 39) = X at hB hR ⊢
  clear hg
  have HR : Hid _ := hR.setRow (rwA ⟨true, true, ⟨a, b, dg_secZ⟩⟩)
  have HB : Hid _ := below_row hB HG.out (rwA ⟨true, true, ⟨a, b, dg_secZ⟩⟩)
  obtain ⟨r2, q2⟩ := hR
  have z2 : (rowAt X g).size = 36 := by rw [q2]; exact rwA_size _
  have z3 : (rwA ⟨true, true, ⟨a, b, dg_secZ⟩⟩).size = 36 := rwA_size _
  have o3 : OneC (rwA ⟨true, true, ⟨a, b, dg_secZ⟩⟩) = true := rwA_one _
  clear hB hR9 HRR z9 o9
  go_wp2
  exact rw_bodyPost1 4 g ⟨true, true, ⟨a, b, dg_secZ⟩⟩ rfl rfl rfl HR.out ⟨rfl, HB.out⟩
/-- A literal of one row, new. -/
def LtR (n0 : Nat) (r : Rw) (v : Value) (x : World) : Prop := ∃ q, v = .slice (some ⟨q, 0, none⟩) 1 1 ∧ n0 ≤ q ∧ q < x.heap.size ∧ x.rangeAt q 0 (rwF.enc r)
theorem LtR.later {n0 : Nat} {r : Rw} {v : Value} {x y : World} (h : LtR n0 r v x) (hb : Below x.heap.size x y) : LtR n0 r v y := by
  obtain ⟨q, h1, h2, h3, h4⟩ := h
  exact ⟨q, h1, h2, Nat.lt_of_lt_of_le h3 hb.size, range_later h4 hb⟩
def ex77 : Rw := ⟨false, false, ⟨77, 78, dg_secZ⟩⟩
/-- What rows leaves: the rows, and one behind them. -/
def RsP (l : List Rw) (w : World) (e : Ending) (w' : World) : Prop := ∃ g c, e = .returned (.slice (some ⟨g, 0, none⟩) l.length c) ∧ OwnK rwF w' w.heap.size (.slice (some ⟨g, 0, none⟩) (l.length + 1) c) (l ++ [ex77]) ∧ Below w.heap.size w w'
set_option linter.unusedSimpArgs false in
set_option maxRecDepth 100000 in
set_option maxHeartbeats 4000000 in
theorem rows21 (l : List Rw) (x : Option Addr) (n c : Nat) (w : World) (hn : l.length = n) (h41 : n ≤ 3198579280801) (hl : IsK rwE w (.slice x n c) l) :
    Calls Try.prog 9 #[.slice x n c] w fun e w' => RsP l w e w' := by
  unfold RsP
  rw [hn]
  go_enter Try.func9, Try.ntmps9
  go_wp2_with fail
  go_loopw [3, 4] (fun rv iv wr => ∃ i : Nat, i ≤ n ∧ iv = .int .i64 i ∧ OwnK rwF wr w.heap.size rv (l.take i) ∧ Below w.heap.size w wr) (fun _ iv _ => n - (intOf iv).toNat)
  case atStart => exact ⟨0, by omega, rfl, OwnK.nil _ _ _, Below.refl _ _⟩
  case round =>
    obtain ⟨i, hi, rfl, hO, hB⟩ := hrel
    by_cases hlt : i < n
    · obtain ⟨r, hr⟩ : ∃ r, l[i]? = some r := ⟨_, List.getElem?_eq_getElem (by omega)⟩
      have hlk := hl.kept hB
      obtain ⟨g, o, e9, -, -, -, -⟩ := rwE_rg hlk i r hr
      subst e9
      obtain ⟨g9, o9, e9, -, c0, c1, -, -⟩ := rwE_cells hlk i r hr
      cases e9
      have HSN : Hid (∀ x, Below wr.heap.size wr x → rgOk x g (o + i * 36 + 2) 34 = true ∧ rg x g (o + i * 36 + 2) 34 = snA r.sn) := fun x hb => by
        obtain ⟨g9, o9, e9, -, -, k3, k4⟩ := rwE_rg (hlk.kept hb) i r hr
        cases e9
        exact ⟨k3, k4⟩
      have i0 : (i : Int) < (n : Int) := by omega
      have i1 : (0 : Int) ≤ (i : Int) := by omega
      have FK : Hid ((0 : Int) ≤ (i : Int) ∧ (i : Int) < (n : Int)) := ⟨i1, i0⟩
      have HI : Hid (i < n) := hlt
      clear hlk
      go_upto_region 5 with fail
      clear i0
      refine wp_reliesT [Fx (u3), Fx (.slice (some ⟨g, o, none⟩) n c), Fx (.int .i64 (i : Int)), Fx (.pointer (some ⟨g, o + i * 36, none⟩)), Fx (.pointer (some ⟨g, o + i * 36, none⟩)), Fx (.bool r.th), Fx (.slice (some ⟨g, o, none⟩) n c), Fx (.int .i64 (i : Int)), Fx (.pointer (some ⟨g, o + i * 36, none⟩)), Fx (.pointer (some ⟨g, o + i * 36 + 1, none⟩)), Fx (.bool r.la), Fx (.slice (some ⟨g, o, none⟩) n c), Fx (.int .i64 (i : Int)), Fx (.pointer (some ⟨g, o + i * 36, none⟩)), Fx (.pointer (some ⟨g, o + i * 36 + 2, none⟩)), Fx (.agg (snA r.sn)), Fx (.agg (rwA ⟨r.th, r.la, r.sn⟩)), LtR wr.heap.size ⟨r.th, r.la, r.sn⟩] (by kernel_rfl) (by kernel_rfl) ?_ ?_ ?_
      · repeat' (first | exact all_nil | apply all_cons)
        all_goals intro v y y' hv hb
        all_goals first | exact Fx_mono _ _ _ _ hv hb | exact LtR.later hv hb
      · refine ⟨?_, ?_, ?_, ?_, ?_, ?_, ?_, ?_, ?_, ?_, ?_, ?_, ?_, ?_, ?_, ?_, ?_, ?_, trivial⟩
        all_goals
          intro ρ x_1 hp ρc ρg ρf ho hd
          have o0 : ρ (.tmp 0) = .slice (some ⟨g, o, none⟩) n c := ho 0 rfl
          have o3 : ρ (.tmp 3) = u3 := ho 3 rfl
          have o4 : ρ (.tmp 4) = .int .i64 (i : Int) := ho 4 rfl
          clear ho
          have c0' := cell_later hp c0
          have c1' := cell_later hp c1
          obtain ⟨k1, k2⟩ := HSN.out x_1 hp
          simp only [depsR, depR, slotR, Fx, List.getElem?_cons_succ, List.getElem?_cons_zero, Region.binds, forall_const] at hd
          simp only [guardR]
          go_split_ands
        · go_simp
        · go_simp
        · go_simp
        · obtain ⟨z1, z2⟩ := FK.out
          go_simp
        · go_simp
        · go_simp
        · go_simp
        · go_simp
        · obtain ⟨z1, z2⟩ := FK.out
          go_simp
        · go_simp
        · go_simp
        · go_simp
        · go_simp
        · obtain ⟨z1, z2⟩ := FK.out
          go_simp
        · go_simp
        · go_simp
        · go_simp
        · go_simp
          exact ⟨⟨_, rfl, hp.size, by simp, rf_litr _ _⟩, below_alloc _ _⟩
      · intro vs x1 hp hw
        simp only [owed, Fx] at hw
        obtain ⟨e0, e1, e2, e3, e4, e5, e6, e7, e8, e9, e10, e11, e12, e13, e14, e15, e16, ⟨q, e17, hq1, hq2, hq3⟩, -⟩ := hw
        simp only [List.length_cons, List.length_nil, List.take_succ_cons, List.take_zero, List.drop_succ_cons, List.drop_zero, asg, List.cons_append, List.nil_append, e0, e1, e2, e3, e4, e5, e6, e7, e8, e9, e10, e11, e12, e13, e14, e15, e16, e17]
        clear e0 e1 e2 e3 e4 e5 e6 e7 e8 e9 e10 e11 e12 e13 e14 e15 e16 e17
        have hO1 := hO.keep hp
        have hB1 := hB.trans (hp.mono hB.size)
        obtain ⟨g', c', w', hra, hO2, -, hg, -⟩ := run_app1K rwF_ok x1 w.heap.size q u3 (l.take i) ⟨r.th, r.la, r.sn⟩ 30 hO1 hq3 hq2 (by rw [List.length_take]; show (min i l.length + 1) * 44 ≤ _; omega) (by rw [List.length_take]; unfold maxLen; omega) hB1.size
        have e9 : l.take i ++ [⟨r.th, r.la, r.sn⟩] = l.take (i + 1) := by rw [take_snoc hr]
        rw [e9] at hO2
        have HO : Hid (OwnK rwF w' w.heap.size (.slice (some ⟨g', 0, none⟩) ((l.take i).length + 1) c') (l.take (i + 1))) := hO2
        have HB : Hid _ := hB1.trans (hO1.below hg hB1.size)
        have hra' : (Builtin.append_ #[30, 30] 30 #[u3, .slice (some ⟨q, 0, none⟩) 1 1]).run Try.prog x1 = .ok (.slice (some ⟨g', 0, none⟩) ((l.take i).length + 1) c') w' := hra
        generalize (l.take i).length + 1 = m9 at HO hra'
        clear hra hO hB hO1 hB1 hO2 hg hr e9 hlt hi hp hq1 hq2 hq3 c0 c1 HSN
        have i0' : (i : Int) < (n : Int) := FK.out.2
        go_wp2_with (at_builtin; refine wpL_appR 30 rfl _ _ rfl _ w' (by exact hra') ?_)
        go_roundw
        case rel => first | exact ⟨i + 1, by have := HI.out; omega, by go_num, HO.out, HB.out⟩ | ((repeat apply Exists.intro); refine ⟨⟨i + 1, by have := HI.out; omega, ?_, HO.out, HB.out⟩, rfl⟩; go_num)
        case measure => have := HI.out; simp [intOf]; omega
    · obtain rfl : n = i := by omega
      have i0 : ¬ (n : Int) < (n : Int) := by omega
      have htk : l.take n = l := by rw [← hn, List.take_length]
      rw [htk] at hO
      have bC := below_alloc wr (.cells (rwA ex77) 45)
      obtain ⟨g', c', w', hra, hO2, -, hg, -⟩ := run_app1K rwF_ok (wr.alloc (.cells (rwA ex77) 45)) w.heap.size wr.heap.size u3 l ex77 30 (hO.keep bC) (rf_litr wr ex77) (by simp) (by show (l.length + 1) * 44 ≤ _; omega) (by unfold maxLen; omega) (Nat.le_trans hB.size bC.size)
      rw [hn] at hra hO2
      have hra' : (Builtin.append_ #[30, 30] 30 #[u3, .slice (some ⟨wr.heap.size, 0, none⟩) 1 1]).run Try.prog (wr.alloc (.cells (rwA ⟨false, false, ⟨77, 78, dg_secZ⟩⟩) 45)) = .ok (.slice (some ⟨g', 0, none⟩) (n + 1) c') w' := hra
      have HO : Hid (OwnK rwF w' w.heap.size (.slice (some ⟨g', 0, none⟩) (n + 1) c') (l ++ [ex77])) := hO2
      have HB : Hid _ := (hB.trans (bC.mono hB.size)).trans ((hO.keep bC).below hg (Nat.le_trans hB.size bC.size))
      have hc1 : n + 1 ≤ c' := by
        rcases hO2.2 with ⟨h, -⟩ | ⟨g9, cap, cur, h, -, -, hle, -⟩
        · cases h
        · simp only [Value.slice.injEq] at h
          obtain ⟨-, -, rfl⟩ := h
          simpa [hn] using hle
      have hc2 : n ≤ c' := by omega
      have hc3 : (n : Int) ≤ (c' : Int) := by omega
      clear hra hO hB hO2 bC hg htk hlt hi
      go_wp2_with (at_builtin; refine wpL_appR 30 rfl _ _ rfl _ w' (by exact hra') ?_)
      go_ret
      exact ⟨g', c', rfl, HO.out, HB.out⟩
end Go.Proofs.Ytligjfofnafjeaa
