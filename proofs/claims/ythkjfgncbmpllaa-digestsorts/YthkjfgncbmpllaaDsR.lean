
import Derived.Test.YthkjfgncbmpllaaDsO
import Derived.Great.BuildSlice
namespace Go.Proofs.Ythkjfgncbmpllaa
open Go.RowKit

theorem cmp_neg (a b : Dg) (h : dN a < dN b) : dcmp a b < 0 := by rw [dcmp_num, if_pos h]; omega
theorem cmp_pos (a b : Dg) (h : ¬ dN a < dN b) : ¬ dcmp a b < 0 := by
  rw [dcmp_num, if_neg h]
  split <;> omega
theorem rng_later {w w1 : World} {b : Nat} (hb : Below w.heap.size w w1) (hlt : b < w.heap.size) (o : Nat) : rngOk w1 b o = rngOk w b o ∧ rng w1 b o = rng w b o := by
  have h : ∀ j, w1.cell? ⟨b, o + j, none⟩ = w.cell? ⟨b, o + j, none⟩ := fun j => hb.cell (p := ⟨b, o + j, none⟩) hlt
  unfold rngOk rng
  simp only [h]
  exact ⟨trivial, trivial⟩
def slen : Value → Nat | .slice _ n _ => n | _ => 0
def dgBS (x : Value) : Sem Next := do pure (.value (← Instr.buildSlice 31 1 #[(0, x)]))
@[go_sem ↓] theorem execOp_dgBS (ρ : Operand → Value) (dst : Option Tmp) (ty : TypeId) (pos : String) (after : Array Edge) (guard : Option (Nat × Bool)) (x : Operand) : execOp ρ { dst, op := .buildSlice 31 1 #[(0, x)], type := ty, pos, after, guard } = dgBS (ρ x) := by simp [execOp, dgBS]
theorem foldl_set : ∀ (l : List Value) (k : Nat) (base : Array Value) (i : Nat), ((l.zipIdx k).foldl (fun (cs : Array Value) p => cs.setIfInBounds (0 + p.2) p.1) base)[i]? = if k ≤ i ∧ i < k + l.length ∧ i < base.size then l[i - k]? else base[i]?
  | [], k, base, i => by simp; omega
  | x :: l, k, base, i => by
    rw [List.zipIdx_cons, List.foldl_cons, foldl_set l (k + 1) _ i]
    simp only [Array.size_setIfInBounds, List.length_cons, Nat.zero_add]
    by_cases h1 : k + 1 ≤ i ∧ i < k + 1 + l.length ∧ i < base.size
    · rw [if_pos h1, if_pos (by omega), show i - k = (i - (k + 1)) + 1 by omega, List.getElem?_cons_succ]
    · rw [if_neg h1]
      by_cases h2 : i = k
      · subst h2
        by_cases h3 : i < base.size
        · rw [if_pos (by omega), Nat.sub_self]; simp [h3]
        · rw [if_neg (by omega)]; simp [h3]
      · rw [if_neg (by omega), Array.getElem?_setIfInBounds_ne (fun e => h2 e.symm)]
theorem fill_any (n : Nat) (c base : Array Value) (hc : c.size = n) (hb : base.size = n) : Instr.fill (fun i => some (i * n, n)) base [(0, .agg c)] = some c := by
  have hcell : (Value.agg c).cells = c := rfl
  unfold Instr.fill
  simp only [hcell, Nat.zero_mul, hc, hb, ne_eq, not_true_eq_false, decide_false, Bool.false_or, Nat.zero_add, gt_iff_lt, Nat.lt_irrefl, Bool.false_eq_true, if_false]
  unfold Instr.fill
  congr 1
  apply Array.ext_getElem?
  intro i
  have h := foldl_set c.toList 0 base i
  simp only [Nat.zero_add] at h
  rw [← Array.foldl_toList, Array.toList_zipIdx, h]
  by_cases hi : i < n
  · rw [if_pos (by simp; omega), Nat.sub_zero, Array.getElem?_toList]
  · rw [if_neg (by simp; omega), Array.getElem?_eq_none (by omega), Array.getElem?_eq_none (by omega)]
theorem fill_dg (d : Dg) (base : Array Value) (hb : base.size = 32) : Instr.fill (fun i => some (i * 32, 32)) base [(0, .agg (dg_secA d))] = some (dg_secA d) := fill_any 32 _ _ (dg_secA_size d) hb
@[go_sem] theorem run_dgBS (w : World) (d : Dg) : (dgBS (.agg (dg_secA d))).run Try.prog w = .ok (.value (.slice (some ⟨w.heap.size, 0, none⟩) 1 1)) (w.alloc (.cells (dg_secA d) 23)) := by
  obtain ⟨i, hi, hzz⟩ := Option.map_eq_some_iff.1 infoDg
  simp only [Prod.mk.injEq] at hzz
  obtain ⟨hz, hs, hby⟩ := hzz
  simp only [dgBS, Sem.run_bind]
  rw [run_buildSlice (P := Try.prog) w 31 23 1 #[(0, .agg (dg_secA d))] (dg_secA d) i _ Try.underlying31 hi hz (by rw [hs]; omega) (by rw [hs]; omega) (by rw [hs]; exact fill_dg d _ (by simp))]
  rfl
theorem wpL_appD {ops : Array Oper} {rest : List Oper} {o : Oper} {a : Act} {w : World} {Q : Exit → Act → World → Prop} (hgd : o.guard = none) (s x : Operand)
    (ho : o.op = .call { callee := .builtin .append, args := #[s, x], argTypes := #[31, 31] }) (v' : Value) (w' : World) (hr : (Builtin.append_ #[31, 31] o.type #[a.eval s, a.eval x]).run Try.prog w = .ok v' w')
    (h : wpList Try.prog ops Q rest (a.put o.dst v') w') : wpList Try.prog ops Q (o :: rest) a w :=
  wpList_plain hgd fun _ hK => by
    unfold Oper.wp execOp
    simp only [ho, resolve, invoke, builtin, Sem.run_bind, Sem.run_pure, Result.andThen_ok, List.map_toArray, List.map_cons, List.map_nil, hr]
    exact hK _ _ h
set_option linter.unusedSimpArgs false in
set_option maxRecDepth 100000 in
set_option maxHeartbeats 1600000 in
theorem refSorted_any (x : Option Addr) (c : Nat) (ds : List Dg) (w : World) (hd : IsDs w (.slice x ds.length c) ds) (hlen : ds.length * 32 + 64 ≤ 140737488355328) :
    Calls Try.prog 18 #[.slice x ds.length c] w fun e w' => ∃ v rs, e = .returned v ∧ OwnDs w' w.heap.size v rs ∧ SortedTo ds rs ∧ Below w.heap.size w w' := by
  go_enter Try.func18, Try.ntmps18
  go_wp2_with fail
  go_loopw [3] (fun v wr => ∃ rs, OwnDs wr w.heap.size v rs ∧ SortUp ds rs ∧ Below w.heap.size w wr) (fun v _ => ds.length - slen v)
  case atStart => exact ⟨[], OwnDs.nil _ _, SortUp.nil ds, Below.refl _ _⟩
  case round =>
    obtain ⟨rs, hO, hU, hB⟩ := hrel
    obtain ⟨xo, co, rfl⟩ := hO.isDs.len
    have hrl := hU.len
    go_wp2_with fail
    go_loopw [4, 5] (fun bst i wr2 => ∃ (k : Nat) (b : Int), k ≤ ds.length ∧ i = .int .i64 k ∧ bst = .int .i64 b ∧ BestAt ds rs b k ∧ Below wr.heap.size wr wr2) (fun _ i _ => ds.length - (intOf i).toNat)
    case atStart => exact ⟨0, -1, Nat.zero_le _, rfl, rfl, BestAt.zero _ _, Below.refl _ _⟩
    case round =>
      obtain ⟨k, bst, hk, rfl, rfl, hbest, hBk⟩ := hrel
      by_cases hlt : k < ds.length
      · obtain ⟨d, hkd⟩ : ∃ d, ds[k]? = some d := ⟨ds[k], List.getElem?_eq_getElem hlt⟩
        have hdk := (hd.kept hB).kept hBk
        obtain ⟨bl, ol, rfl, hbl, ok1, rg1⟩ := hdk.at k d hkd
        have hk0 : (0 : Int) ≤ (k : Int) := by omega
        have hk1 : (k : Int) < (ds.length : Int) := by omega
        have hsz := hBk.size
        by_cases hn0 : rs = []
        · subst hn0
          go_upto_region 6 with fail
          refine wp_relies [Fx (.slice xo 0 co), Fx (.int .i64 0), Fx (.bool true), Fx (.bool true), Fx (undef), Fx (undef), Fx (undef), Fx (undef), Fx (undef), Fx (undef), Fx (undef), Fx (undef), Fx (undef), Fx (undef), Fx (undef), Fx (undef), Fx (.bool true), Fx (.bool true)] (by kernel_rfl) (by kernel_rfl) ?_ ?_ ?_
          · repeat' (first | exact all_nil | apply all_cons)
            all_goals intro v y y' hv hb
            all_goals first | exact Fx_mono _ _ _ _ hv hb
          · refine ⟨?_, ?_, ?_, ?_, ?_, ?_, ?_, ?_, ?_, ?_, ?_, ?_, ?_, ?_, ?_, ?_, ?_, ?_, trivial⟩
            all_goals
              intro ρ x hp ρc ρg ρf ho hd
              have o3 : ρ (.tmp 3) = .slice xo 0 co := ho 3 rfl
              clear ho
              simp only [depsR, depR, slotR, Fx, List.getElem?_cons_succ, List.getElem?_cons_zero, Region.binds, forall_const] at hd
              simp only [guardR]
              go_split_ands
            · go_simp
            · go_simp
            · go_simp
            · go_simp
            · refine ⟨fun hy => ?_, fun _ => rfl⟩
              exfalso; simp [yieldR, slotR, undef, *] at hy
            · refine ⟨fun hy => ?_, fun _ => rfl⟩
              exfalso; simp [yieldR, slotR, undef, *] at hy
            · refine ⟨fun hy => ?_, fun _ => rfl⟩
              exfalso; simp [yieldR, slotR, undef, *] at hy
            · refine ⟨fun hy => ?_, fun _ => rfl⟩
              exfalso; simp [yieldR, slotR, undef, *] at hy
            · refine ⟨fun hy => ?_, fun _ => rfl⟩
              exfalso; simp [yieldR, slotR, undef, *] at hy
            · refine ⟨fun hy => ?_, fun _ => rfl⟩
              exfalso; simp [yieldR, slotR, undef, *] at hy
            · refine ⟨fun hy => ?_, fun _ => rfl⟩
              exfalso; simp [yieldR, slotR, undef, *] at hy
            · refine ⟨fun hy => ?_, fun _ => rfl⟩
              exfalso; simp [yieldR, slotR, undef, *] at hy
            · refine ⟨fun hy => ?_, fun _ => rfl⟩
              exfalso; simp [yieldR, slotR, undef, *] at hy
            · refine ⟨fun hy => ?_, fun _ => rfl⟩
              exfalso; simp [yieldR, slotR, undef, *] at hy
            · refine ⟨fun hy => ?_, fun _ => rfl⟩
              exfalso; simp [yieldR, slotR, undef, *] at hy
            · refine ⟨fun hy => ?_, fun _ => rfl⟩
              exfalso; simp [yieldR, slotR, undef, *] at hy
            · go_simp
            · go_simp
          · intro vs y1 hy1 hw
            simp only [owed, Fx] at hw
            obtain ⟨e0, e1, e2, e3, e4, e5, e6, e7, e8, e9, e10, e11, e12, e13, e14, e15, e16, e17, -⟩ := hw
            simp only [List.length_cons, List.length_nil, List.take_succ_cons, List.take_nil, List.drop_succ_cons, List.drop_nil, asg, List.cons_append, List.nil_append, e0, e1, e2, e3, e4, e5, e6, e7, e8, e9, e10, e11, e12, e13, e14, e15, e16, e17]
            clear e0 e1 e2 e3 e4 e5 e6 e7 e8 e9 e10 e11 e12 e13 e14 e15 e16 e17
            have hBy := hBk.trans (hy1.mono hBk.size)
            replace ok1 := (rng_later hy1 hbl (ol + k * 32)).1.trans ok1
            replace rg1 := (rng_later hy1 hbl (ol + k * 32)).2.trans rg1
            have hbl2 : bl < y1.heap.size := Nat.lt_of_lt_of_le hbl hy1.size
            rcases hbest.form with rfl | ⟨b, db, rfl, hbk, hdb⟩
            · go_upto_region 7 with fail
              refine wp_relies [Fx (.bool true), Fx (.bool true), Fx (.int .i64 (-1)), Fx (.bool true), Fx (.bool true), Fx (undef), Fx (undef), Fx (undef), Fx (undef), Fx (undef), Fx (undef), Fx (undef), Fx (undef), Fx (undef), Fx (undef), Fx (.bool true), Fx (.bool true)] (by kernel_rfl) (by kernel_rfl) ?_ ?_ ?_
              · repeat' (first | exact all_nil | apply all_cons)
                all_goals intro v y y' hv hb
                all_goals first | exact Fx_mono _ _ _ _ hv hb
              · refine ⟨?_, ?_, ?_, ?_, ?_, ?_, ?_, ?_, ?_, ?_, ?_, ?_, ?_, ?_, ?_, ?_, ?_, trivial⟩
                all_goals
                  intro ρ x hp ρc ρg ρf ho hd
                  have o4 : ρ (.tmp 4) = .int .i64 (-1) := ho 4 rfl
                  have o6 : ρ (.tmp 6) = .bool true := ho 6 rfl
                  clear ho
                  simp only [depsR, depR, slotR, Fx, List.getElem?_cons_succ, List.getElem?_cons_zero, Region.binds, forall_const] at hd
                  simp only [guardR]
                  go_split_ands
                · go_simp
                · go_simp
                · refine ⟨fun _ => ?_, fun hy => absurd (by simp [yieldR, slotR, *]) hy⟩
                  go_simp
                · refine ⟨fun _ => ?_, fun hy => absurd (by simp [yieldR, slotR, *]) hy⟩
                  go_simp
                · refine ⟨fun _ => ?_, fun hy => absurd (by simp [yieldR, slotR, *]) hy⟩
                  go_simp
                · refine ⟨fun hy => ?_, fun _ => rfl⟩
                  exfalso; simp [yieldR, slotR, undef, *] at hy
                · refine ⟨fun hy => ?_, fun _ => rfl⟩
                  exfalso; simp [yieldR, slotR, undef, *] at hy
                · refine ⟨fun hy => ?_, fun _ => rfl⟩
                  exfalso; simp [yieldR, slotR, undef, *] at hy
                · refine ⟨fun hy => ?_, fun _ => rfl⟩
                  exfalso; simp [yieldR, slotR, undef, *] at hy
                · refine ⟨fun hy => ?_, fun _ => rfl⟩
                  exfalso; simp [yieldR, slotR, undef, *] at hy
                · refine ⟨fun hy => ?_, fun _ => rfl⟩
                  exfalso; simp [yieldR, slotR, undef, *] at hy
                · refine ⟨fun hy => ?_, fun _ => rfl⟩
                  exfalso; simp [yieldR, slotR, undef, *] at hy
                · refine ⟨fun hy => ?_, fun _ => rfl⟩
                  exfalso; simp [yieldR, slotR, undef, *] at hy
                · refine ⟨fun hy => ?_, fun _ => rfl⟩
                  exfalso; simp [yieldR, slotR, undef, *] at hy
                · refine ⟨fun hy => ?_, fun _ => rfl⟩
                  exfalso; simp [yieldR, slotR, undef, *] at hy
                · refine ⟨fun _ => ?_, fun hy => absurd (by simp [yieldR, slotR, *]) hy⟩
                  go_simp
                · go_simp
              · intro vs y2 hy2 hw
                simp only [owed, Fx] at hw
                obtain ⟨e0, e1, e2, e3, e4, e5, e6, e7, e8, e9, e10, e11, e12, e13, e14, e15, e16, -⟩ := hw
                simp only [List.length_cons, List.length_nil, List.take_succ_cons, List.take_nil, List.drop_succ_cons, List.drop_nil, asg, List.cons_append, List.nil_append, e0, e1, e2, e3, e4, e5, e6, e7, e8, e9, e10, e11, e12, e13, e14, e15, e16]
                clear e0 e1 e2 e3 e4 e5 e6 e7 e8 e9 e10 e11 e12 e13 e14 e15 e16
                have HQ : Hid _ := hbest.first hkd (beh_nil _)
                have HB : Hid _ := hBy.trans (hy2.mono hBy.size)
                clear hBy hy2
                go_wp2
                go_roundw
                case rel => first | exact ⟨k + 1, (k : Nat), by omega, by go_num, rfl, HQ.out, HB.out⟩ | exact ⟨k + 1, by omega, by omega, HQ.out, HB.out⟩ | exact ⟨⟨k + 1, (k : Nat), by omega, by go_num, rfl, HQ.out, HB.out⟩, rfl⟩ | ((repeat apply Exists.intro); refine ⟨⟨k + 1, (k : Nat), by omega, ?_, rfl, HQ.out, HB.out⟩, rfl⟩; go_num)
                case measure => simp [intOf]; omega
            · obtain ⟨_, _, hx3, hbl3, ok3, rg3⟩ := (hdk.kept hy1).at b db hdb
              simp only [Option.some.injEq, Addr.mk.injEq, and_true] at hx3
              obtain ⟨rfl, rfl⟩ := hx3
              have hb0 : (0 : Int) ≤ (b : Int) := by omega
              have hb1 : (b : Int) < (ds.length : Int) := by omega
              have hb2 : ¬ (b : Int) < 0 := by omega
              by_cases hc : dN d < dN db
              · have hcm := cmp_neg d db hc
                go_upto_region 7 with fail
                refine wp_relies [Fx (.bool true), Fx (.bool true), Fx (.int .i64 (b : Nat)), Fx (.bool false), Fx (.bool false), Fx (.slice (some ⟨bl, ol, none⟩) ds.length c), Fx (.int .i64 (k : Nat)), Fx (.pointer (some ⟨bl, ol + k * 32, none⟩)), Fx (.agg (dg_secA d)), Fx (.slice (some ⟨bl, ol, none⟩) ds.length c), Fx (.int .i64 (b : Nat)), Fx (.pointer (some ⟨bl, ol + b * 32, none⟩)), Fx (.agg (dg_secA db)), Fx (.int .i64 (dcmp d db)), Fx (.bool true), Fx (.bool true), Fx (.bool true)] (by kernel_rfl) (by kernel_rfl) ?_ ?_ ?_
                · repeat' (first | exact all_nil | apply all_cons)
                  all_goals intro v y y' hv hb
                  all_goals first | exact Fx_mono _ _ _ _ hv hb
                · refine ⟨?_, ?_, ?_, ?_, ?_, ?_, ?_, ?_, ?_, ?_, ?_, ?_, ?_, ?_, ?_, ?_, ?_, trivial⟩
                  all_goals
                    intro ρ x hp ρc ρg ρf ho hd
                    have o0 : ρ (.tmp 0) = .slice (some ⟨bl, ol, none⟩) ds.length c := ho 0 rfl
                    have o4 : ρ (.tmp 4) = .int .i64 (b : Nat) := ho 4 rfl
                    have o5 : ρ (.tmp 5) = .int .i64 (k : Nat) := ho 5 rfl
                    have o6 : ρ (.tmp 6) = .bool true := ho 6 rfl
                    clear ho
                    have ha := rng_later hp hbl2 (ol + k * 32)
                    have ka := ha.1.trans ok1
                    have ga := ha.2.trans rg1
                    clear ha
                    have hb := rng_later hp hbl2 (ol + b * 32)
                    have kb := hb.1.trans ok3
                    have gb := hb.2.trans rg3
                    clear hb
                    simp only [depsR, depR, slotR, Fx, List.getElem?_cons_succ, List.getElem?_cons_zero, Region.binds, forall_const] at hd
                    simp only [guardR]
                    go_split_ands
                  · go_simp
                  · go_simp
                  · refine ⟨fun _ => ?_, fun hy => absurd (by simp [yieldR, slotR, *]) hy⟩
                    go_simp
                  · refine ⟨fun _ => ?_, fun hy => absurd (by simp [yieldR, slotR, *]) hy⟩
                    go_simp
                  · refine ⟨fun _ => ?_, fun hy => absurd (by simp [yieldR, slotR, *]) hy⟩
                    go_simp
                  · refine ⟨fun _ => ?_, fun hy => absurd (by simp [yieldR, slotR, *]) hy⟩
                    go_simp
                  · refine ⟨fun _ => ?_, fun hy => absurd (by simp [yieldR, slotR, *]) hy⟩
                    go_simp
                  · refine ⟨fun _ => ?_, fun hy => absurd (by simp [yieldR, slotR, *]) hy⟩
                    go_simp
                  · refine ⟨fun _ => ?_, fun hy => absurd (by simp [yieldR, slotR, *]) hy⟩
                    go_simp
                  · refine ⟨fun _ => ?_, fun hy => absurd (by simp [yieldR, slotR, *]) hy⟩
                    go_simp
                  · refine ⟨fun _ => ?_, fun hy => absurd (by simp [yieldR, slotR, *]) hy⟩
                    go_simp
                  · refine ⟨fun _ => ?_, fun hy => absurd (by simp [yieldR, slotR, *]) hy⟩
                    go_simp
                  · refine ⟨fun _ => ?_, fun hy => absurd (by simp [yieldR, slotR, *]) hy⟩
                    go_simp
                  · refine ⟨fun _ => ?_, fun hy => absurd (by simp [yieldR, slotR, *]) hy⟩
                    go_simp
                    refine (refCompare_any d db x).mono ?_
                    rintro e x' ⟨rfl, hb⟩
                    exact ⟨_, rfl, rfl, hb⟩
                  · refine ⟨fun _ => ?_, fun hy => absurd (by simp [yieldR, slotR, *]) hy⟩
                    go_simp
                  · refine ⟨fun _ => ?_, fun hy => absurd (by simp [yieldR, slotR, *]) hy⟩
                    go_simp
                  · go_simp
                · intro vs y2 hy2 hw
                  simp only [owed, Fx] at hw
                  obtain ⟨e0, e1, e2, e3, e4, e5, e6, e7, e8, e9, e10, e11, e12, e13, e14, e15, e16, -⟩ := hw
                  simp only [List.length_cons, List.length_nil, List.take_succ_cons, List.take_nil, List.drop_succ_cons, List.drop_nil, asg, List.cons_append, List.nil_append, e0, e1, e2, e3, e4, e5, e6, e7, e8, e9, e10, e11, e12, e13, e14, e15, e16]
                  clear e0 e1 e2 e3 e4 e5 e6 e7 e8 e9 e10 e11 e12 e13 e14 e15 e16
                  have HQ : Hid _ := hbest.better hkd (beh_nil _) hdb hc
                  have HB : Hid _ := hBy.trans (hy2.mono hBy.size)
                  clear hBy hy2
                  go_wp2
                  go_roundw
                  case rel => first | exact ⟨k + 1, (k : Nat), by omega, by go_num, rfl, HQ.out, HB.out⟩ | exact ⟨k + 1, by omega, by omega, HQ.out, HB.out⟩ | exact ⟨⟨k + 1, (k : Nat), by omega, by go_num, rfl, HQ.out, HB.out⟩, rfl⟩ | ((repeat apply Exists.intro); refine ⟨⟨k + 1, (k : Nat), by omega, ?_, rfl, HQ.out, HB.out⟩, rfl⟩; go_num)
                  case measure => simp [intOf]; omega
              · have hcm := cmp_pos d db hc
                go_upto_region 7 with fail
                refine wp_relies [Fx (.bool true), Fx (.bool true), Fx (.int .i64 (b : Nat)), Fx (.bool false), Fx (.bool false), Fx (.slice (some ⟨bl, ol, none⟩) ds.length c), Fx (.int .i64 (k : Nat)), Fx (.pointer (some ⟨bl, ol + k * 32, none⟩)), Fx (.agg (dg_secA d)), Fx (.slice (some ⟨bl, ol, none⟩) ds.length c), Fx (.int .i64 (b : Nat)), Fx (.pointer (some ⟨bl, ol + b * 32, none⟩)), Fx (.agg (dg_secA db)), Fx (.int .i64 (dcmp d db)), Fx (.bool false), Fx (.bool false), Fx (.bool false)] (by kernel_rfl) (by kernel_rfl) ?_ ?_ ?_
                · repeat' (first | exact all_nil | apply all_cons)
                  all_goals intro v y y' hv hb
                  all_goals first | exact Fx_mono _ _ _ _ hv hb
                · refine ⟨?_, ?_, ?_, ?_, ?_, ?_, ?_, ?_, ?_, ?_, ?_, ?_, ?_, ?_, ?_, ?_, ?_, trivial⟩
                  all_goals
                    intro ρ x hp ρc ρg ρf ho hd
                    have o0 : ρ (.tmp 0) = .slice (some ⟨bl, ol, none⟩) ds.length c := ho 0 rfl
                    have o4 : ρ (.tmp 4) = .int .i64 (b : Nat) := ho 4 rfl
                    have o5 : ρ (.tmp 5) = .int .i64 (k : Nat) := ho 5 rfl
                    have o6 : ρ (.tmp 6) = .bool true := ho 6 rfl
                    clear ho
                    have ha := rng_later hp hbl2 (ol + k * 32)
                    have ka := ha.1.trans ok1
                    have ga := ha.2.trans rg1
                    clear ha
                    have hb := rng_later hp hbl2 (ol + b * 32)
                    have kb := hb.1.trans ok3
                    have gb := hb.2.trans rg3
                    clear hb
                    simp only [depsR, depR, slotR, Fx, List.getElem?_cons_succ, List.getElem?_cons_zero, Region.binds, forall_const] at hd
                    simp only [guardR]
                    go_split_ands
                  · go_simp
                  · go_simp
                  · refine ⟨fun _ => ?_, fun hy => absurd (by simp [yieldR, slotR, *]) hy⟩
                    go_simp
                  · refine ⟨fun _ => ?_, fun hy => absurd (by simp [yieldR, slotR, *]) hy⟩
                    go_simp
                  · refine ⟨fun _ => ?_, fun hy => absurd (by simp [yieldR, slotR, *]) hy⟩
                    go_simp
                  · refine ⟨fun _ => ?_, fun hy => absurd (by simp [yieldR, slotR, *]) hy⟩
                    go_simp
                  · refine ⟨fun _ => ?_, fun hy => absurd (by simp [yieldR, slotR, *]) hy⟩
                    go_simp
                  · refine ⟨fun _ => ?_, fun hy => absurd (by simp [yieldR, slotR, *]) hy⟩
                    go_simp
                  · refine ⟨fun _ => ?_, fun hy => absurd (by simp [yieldR, slotR, *]) hy⟩
                    go_simp
                  · refine ⟨fun _ => ?_, fun hy => absurd (by simp [yieldR, slotR, *]) hy⟩
                    go_simp
                  · refine ⟨fun _ => ?_, fun hy => absurd (by simp [yieldR, slotR, *]) hy⟩
                    go_simp
                  · refine ⟨fun _ => ?_, fun hy => absurd (by simp [yieldR, slotR, *]) hy⟩
                    go_simp
                  · refine ⟨fun _ => ?_, fun hy => absurd (by simp [yieldR, slotR, *]) hy⟩
                    go_simp
                  · refine ⟨fun _ => ?_, fun hy => absurd (by simp [yieldR, slotR, *]) hy⟩
                    go_simp
                    refine (refCompare_any d db x).mono ?_
                    rintro e x' ⟨rfl, hb⟩
                    exact ⟨_, rfl, rfl, hb⟩
                  · refine ⟨fun _ => ?_, fun hy => absurd (by simp [yieldR, slotR, *]) hy⟩
                    go_simp
                  · refine ⟨fun _ => ?_, fun hy => absurd (by simp [yieldR, slotR, *]) hy⟩
                    go_simp
                  · go_simp
                · intro vs y2 hy2 hw
                  simp only [owed, Fx] at hw
                  obtain ⟨e0, e1, e2, e3, e4, e5, e6, e7, e8, e9, e10, e11, e12, e13, e14, e15, e16, -⟩ := hw
                  simp only [List.length_cons, List.length_nil, List.take_succ_cons, List.take_nil, List.drop_succ_cons, List.drop_nil, asg, List.cons_append, List.nil_append, e0, e1, e2, e3, e4, e5, e6, e7, e8, e9, e10, e11, e12, e13, e14, e15, e16]
                  clear e0 e1 e2 e3 e4 e5 e6 e7 e8 e9 e10 e11 e12 e13 e14 e15 e16
                  have HQ : Hid _ := hbest.keep hkd hdb hc
                  have HB : Hid _ := hBy.trans (hy2.mono hBy.size)
                  clear hBy hy2
                  go_wp2
                  go_roundw
                  case rel => first | exact ⟨k + 1, (b : Nat), by omega, by go_num, rfl, HQ.out, HB.out⟩ | exact ⟨k + 1, by omega, by omega, HQ.out, HB.out⟩ | exact ⟨⟨k + 1, (b : Nat), by omega, by go_num, rfl, HQ.out, HB.out⟩, rfl⟩ | ((repeat apply Exists.intro); refine ⟨⟨k + 1, (b : Nat), by omega, ?_, rfl, HQ.out, HB.out⟩, rfl⟩; go_num)
                  case measure => simp [intOf]; omega
        · obtain ⟨rs1, lst, rfl⟩ : ∃ rs1 lst, rs = rs1 ++ [lst] := ⟨rs.dropLast, rs.getLast hn0, (List.dropLast_concat_getLast hn0).symm⟩
          have hbl1 := beh_last hU (dN d)
          obtain ⟨m, hm⟩ : ∃ m, rs1.length = m := ⟨_, rfl⟩
          obtain ⟨bo, oo, rfl, hbo, ok2, rg2⟩ := (hO.isDs.kept hBk).at m lst (by rw [← hm]; simp)
          have hnl : (rs1 ++ [lst]).length = m + 1 := by rw [List.length_append, hm]; rfl
          obtain ⟨n, hnn⟩ : ∃ n, (rs1 ++ [lst]).length = n := ⟨_, rfl⟩
          rw [hnn]
          have n1 : IntKind.i64.wrap ((n : Int) - 1) = (m : Int) := by rw [IntKind.wrap_i64]; omega
          have n2 : (m : Int) < (n : Int) := by omega
          have n3 : (0 : Int) ≤ (m : Int) := by omega
          have n4 : ¬ (n : Int) = 0 := by omega
          have n5 : ((n : Int) == 0) = false := beq_eq_false_iff_ne.2 n4
          have n6 : ¬ n = 0 := by omega
          by_cases hc0 : dN lst < dN d
          · have hcm0 := cmp_neg lst d hc0
            have hbh := hbl1.2 hc0
            go_upto_region 6 with fail
            refine wp_relies [Fx (.slice (some ⟨bo, oo, none⟩) n co), Fx (.int .i64 (n : Nat)), Fx (.bool false), Fx (.bool false), Fx (.slice (some ⟨bo, oo, none⟩) n co), Fx (.slice (some ⟨bo, oo, none⟩) n co), Fx (.int .i64 (n : Nat)), Fx (.int .i64 (m : Nat)), Fx (.pointer (some ⟨bo, oo + m * 32, none⟩)), Fx (.agg (dg_secA lst)), Fx (.slice (some ⟨bl, ol, none⟩) ds.length c), Fx (.int .i64 (k : Nat)), Fx (.pointer (some ⟨bl, ol + k * 32, none⟩)), Fx (.agg (dg_secA d)), Fx (.int .i64 (dcmp lst d)), Fx (.bool true), Fx (.bool true), Fx (.bool true)] (by kernel_rfl) (by kernel_rfl) ?_ ?_ ?_
            · repeat' (first | exact all_nil | apply all_cons)
              all_goals intro v y y' hv hb
              all_goals first | exact Fx_mono _ _ _ _ hv hb
            · refine ⟨?_, ?_, ?_, ?_, ?_, ?_, ?_, ?_, ?_, ?_, ?_, ?_, ?_, ?_, ?_, ?_, ?_, ?_, trivial⟩
              all_goals
                intro ρ x hp ρc ρg ρf ho hd
                have o0 : ρ (.tmp 0) = .slice (some ⟨bl, ol, none⟩) ds.length c := ho 0 rfl
                have o3 : ρ (.tmp 3) = .slice (some ⟨bo, oo, none⟩) n co := ho 3 rfl
                have o5 : ρ (.tmp 5) = .int .i64 (k : Nat) := ho 5 rfl
                clear ho
                have ha := rng_later hp hbl (ol + k * 32)
                have ka := ha.1.trans ok1
                have ga := ha.2.trans rg1
                clear ha
                have hb := rng_later hp hbo (oo + m * 32)
                have kb := hb.1.trans ok2
                have gb := hb.2.trans rg2
                clear hb
                simp only [depsR, depR, slotR, Fx, List.getElem?_cons_succ, List.getElem?_cons_zero, Region.binds, forall_const] at hd
                simp only [guardR]
                go_split_ands
              · go_simp
              · go_simp
              · go_simp
              · go_simp
              · refine ⟨fun _ => ?_, fun hy => absurd (by simp [yieldR, slotR, *]) hy⟩
                go_simp
              · refine ⟨fun _ => ?_, fun hy => absurd (by simp [yieldR, slotR, *]) hy⟩
                go_simp
              · refine ⟨fun _ => ?_, fun hy => absurd (by simp [yieldR, slotR, *]) hy⟩
                go_simp
              · refine ⟨fun _ => ?_, fun hy => absurd (by simp [yieldR, slotR, *]) hy⟩
                go_simp
              · refine ⟨fun _ => ?_, fun hy => absurd (by simp [yieldR, slotR, *]) hy⟩
                go_simp
              · refine ⟨fun _ => ?_, fun hy => absurd (by simp [yieldR, slotR, *]) hy⟩
                go_simp
              · refine ⟨fun _ => ?_, fun hy => absurd (by simp [yieldR, slotR, *]) hy⟩
                go_simp
              · refine ⟨fun _ => ?_, fun hy => absurd (by simp [yieldR, slotR, *]) hy⟩
                go_simp
              · refine ⟨fun _ => ?_, fun hy => absurd (by simp [yieldR, slotR, *]) hy⟩
                go_simp
              · refine ⟨fun _ => ?_, fun hy => absurd (by simp [yieldR, slotR, *]) hy⟩
                go_simp
              · refine ⟨fun _ => ?_, fun hy => absurd (by simp [yieldR, slotR, *]) hy⟩
                go_simp
                refine (refCompare_any lst d x).mono ?_
                rintro e x' ⟨rfl, hb⟩
                exact ⟨_, rfl, rfl, hb⟩
              · refine ⟨fun _ => ?_, fun hy => absurd (by simp [yieldR, slotR, *]) hy⟩
                go_simp
              · go_simp
              · go_simp
            · intro vs y1 hy1 hw
              simp only [owed, Fx] at hw
              obtain ⟨e0, e1, e2, e3, e4, e5, e6, e7, e8, e9, e10, e11, e12, e13, e14, e15, e16, e17, -⟩ := hw
              simp only [List.length_cons, List.length_nil, List.take_succ_cons, List.take_nil, List.drop_succ_cons, List.drop_nil, asg, List.cons_append, List.nil_append, e0, e1, e2, e3, e4, e5, e6, e7, e8, e9, e10, e11, e12, e13, e14, e15, e16, e17]
              clear e0 e1 e2 e3 e4 e5 e6 e7 e8 e9 e10 e11 e12 e13 e14 e15 e16 e17
              have hBy := hBk.trans (hy1.mono hBk.size)
              replace ok1 := (rng_later hy1 hbl (ol + k * 32)).1.trans ok1
              replace rg1 := (rng_later hy1 hbl (ol + k * 32)).2.trans rg1
              have hbl2 : bl < y1.heap.size := Nat.lt_of_lt_of_le hbl hy1.size
              clear hcm0
              rcases hbest.form with rfl | ⟨b, db, rfl, hbk, hdb⟩
              · go_upto_region 7 with fail
                refine wp_relies [Fx (.bool true), Fx (.bool true), Fx (.int .i64 (-1)), Fx (.bool true), Fx (.bool true), Fx (undef), Fx (undef), Fx (undef), Fx (undef), Fx (undef), Fx (undef), Fx (undef), Fx (undef), Fx (undef), Fx (undef), Fx (.bool true), Fx (.bool true)] (by kernel_rfl) (by kernel_rfl) ?_ ?_ ?_
                · repeat' (first | exact all_nil | apply all_cons)
                  all_goals intro v y y' hv hb
                  all_goals first | exact Fx_mono _ _ _ _ hv hb
                · refine ⟨?_, ?_, ?_, ?_, ?_, ?_, ?_, ?_, ?_, ?_, ?_, ?_, ?_, ?_, ?_, ?_, ?_, trivial⟩
                  all_goals
                    intro ρ x hp ρc ρg ρf ho hd
                    have o4 : ρ (.tmp 4) = .int .i64 (-1) := ho 4 rfl
                    have o6 : ρ (.tmp 6) = .bool true := ho 6 rfl
                    clear ho
                    simp only [depsR, depR, slotR, Fx, List.getElem?_cons_succ, List.getElem?_cons_zero, Region.binds, forall_const] at hd
                    simp only [guardR]
                    go_split_ands
                  · go_simp
                  · go_simp
                  · refine ⟨fun _ => ?_, fun hy => absurd (by simp [yieldR, slotR, *]) hy⟩
                    go_simp
                  · refine ⟨fun _ => ?_, fun hy => absurd (by simp [yieldR, slotR, *]) hy⟩
                    go_simp
                  · refine ⟨fun _ => ?_, fun hy => absurd (by simp [yieldR, slotR, *]) hy⟩
                    go_simp
                  · refine ⟨fun hy => ?_, fun _ => rfl⟩
                    exfalso; simp [yieldR, slotR, undef, *] at hy
                  · refine ⟨fun hy => ?_, fun _ => rfl⟩
                    exfalso; simp [yieldR, slotR, undef, *] at hy
                  · refine ⟨fun hy => ?_, fun _ => rfl⟩
                    exfalso; simp [yieldR, slotR, undef, *] at hy
                  · refine ⟨fun hy => ?_, fun _ => rfl⟩
                    exfalso; simp [yieldR, slotR, undef, *] at hy
                  · refine ⟨fun hy => ?_, fun _ => rfl⟩
                    exfalso; simp [yieldR, slotR, undef, *] at hy
                  · refine ⟨fun hy => ?_, fun _ => rfl⟩
                    exfalso; simp [yieldR, slotR, undef, *] at hy
                  · refine ⟨fun hy => ?_, fun _ => rfl⟩
                    exfalso; simp [yieldR, slotR, undef, *] at hy
                  · refine ⟨fun hy => ?_, fun _ => rfl⟩
                    exfalso; simp [yieldR, slotR, undef, *] at hy
                  · refine ⟨fun hy => ?_, fun _ => rfl⟩
                    exfalso; simp [yieldR, slotR, undef, *] at hy
                  · refine ⟨fun hy => ?_, fun _ => rfl⟩
                    exfalso; simp [yieldR, slotR, undef, *] at hy
                  · refine ⟨fun _ => ?_, fun hy => absurd (by simp [yieldR, slotR, *]) hy⟩
                    go_simp
                  · go_simp
                · intro vs y2 hy2 hw
                  simp only [owed, Fx] at hw
                  obtain ⟨e0, e1, e2, e3, e4, e5, e6, e7, e8, e9, e10, e11, e12, e13, e14, e15, e16, -⟩ := hw
                  simp only [List.length_cons, List.length_nil, List.take_succ_cons, List.take_nil, List.drop_succ_cons, List.drop_nil, asg, List.cons_append, List.nil_append, e0, e1, e2, e3, e4, e5, e6, e7, e8, e9, e10, e11, e12, e13, e14, e15, e16]
                  clear e0 e1 e2 e3 e4 e5 e6 e7 e8 e9 e10 e11 e12 e13 e14 e15 e16
                  have HQ : Hid _ := hbest.first hkd (hbh)
                  have HB : Hid _ := hBy.trans (hy2.mono hBy.size)
                  clear hBy hy2
                  go_wp2
                  go_roundw
                  case rel => first | exact ⟨k + 1, (k : Nat), by omega, by go_num, rfl, HQ.out, HB.out⟩ | exact ⟨k + 1, by omega, by omega, HQ.out, HB.out⟩ | exact ⟨⟨k + 1, (k : Nat), by omega, by go_num, rfl, HQ.out, HB.out⟩, rfl⟩ | ((repeat apply Exists.intro); refine ⟨⟨k + 1, (k : Nat), by omega, ?_, rfl, HQ.out, HB.out⟩, rfl⟩; go_num)
                  case measure => simp [intOf]; omega
              · obtain ⟨_, _, hx3, hbl3, ok3, rg3⟩ := (hdk.kept hy1).at b db hdb
                simp only [Option.some.injEq, Addr.mk.injEq, and_true] at hx3
                obtain ⟨rfl, rfl⟩ := hx3
                have hb0 : (0 : Int) ≤ (b : Int) := by omega
                have hb1 : (b : Int) < (ds.length : Int) := by omega
                have hb2 : ¬ (b : Int) < 0 := by omega
                by_cases hc : dN d < dN db
                · have hcm := cmp_neg d db hc
                  go_upto_region 7 with fail
                  refine wp_relies [Fx (.bool true), Fx (.bool true), Fx (.int .i64 (b : Nat)), Fx (.bool false), Fx (.bool false), Fx (.slice (some ⟨bl, ol, none⟩) ds.length c), Fx (.int .i64 (k : Nat)), Fx (.pointer (some ⟨bl, ol + k * 32, none⟩)), Fx (.agg (dg_secA d)), Fx (.slice (some ⟨bl, ol, none⟩) ds.length c), Fx (.int .i64 (b : Nat)), Fx (.pointer (some ⟨bl, ol + b * 32, none⟩)), Fx (.agg (dg_secA db)), Fx (.int .i64 (dcmp d db)), Fx (.bool true), Fx (.bool true), Fx (.bool true)] (by kernel_rfl) (by kernel_rfl) ?_ ?_ ?_
                  · repeat' (first | exact all_nil | apply all_cons)
                    all_goals intro v y y' hv hb
                    all_goals first | exact Fx_mono _ _ _ _ hv hb
                  · refine ⟨?_, ?_, ?_, ?_, ?_, ?_, ?_, ?_, ?_, ?_, ?_, ?_, ?_, ?_, ?_, ?_, ?_, trivial⟩
                    all_goals
                      intro ρ x hp ρc ρg ρf ho hd
                      have o0 : ρ (.tmp 0) = .slice (some ⟨bl, ol, none⟩) ds.length c := ho 0 rfl
                      have o4 : ρ (.tmp 4) = .int .i64 (b : Nat) := ho 4 rfl
                      have o5 : ρ (.tmp 5) = .int .i64 (k : Nat) := ho 5 rfl
                      have o6 : ρ (.tmp 6) = .bool true := ho 6 rfl
                      clear ho
                      have ha := rng_later hp hbl2 (ol + k * 32)
                      have ka := ha.1.trans ok1
                      have ga := ha.2.trans rg1
                      clear ha
                      have hb := rng_later hp hbl2 (ol + b * 32)
                      have kb := hb.1.trans ok3
                      have gb := hb.2.trans rg3
                      clear hb
                      simp only [depsR, depR, slotR, Fx, List.getElem?_cons_succ, List.getElem?_cons_zero, Region.binds, forall_const] at hd
                      simp only [guardR]
                      go_split_ands
                    · go_simp
                    · go_simp
                    · refine ⟨fun _ => ?_, fun hy => absurd (by simp [yieldR, slotR, *]) hy⟩
                      go_simp
                    · refine ⟨fun _ => ?_, fun hy => absurd (by simp [yieldR, slotR, *]) hy⟩
                      go_simp
                    · refine ⟨fun _ => ?_, fun hy => absurd (by simp [yieldR, slotR, *]) hy⟩
                      go_simp
                    · refine ⟨fun _ => ?_, fun hy => absurd (by simp [yieldR, slotR, *]) hy⟩
                      go_simp
                    · refine ⟨fun _ => ?_, fun hy => absurd (by simp [yieldR, slotR, *]) hy⟩
                      go_simp
                    · refine ⟨fun _ => ?_, fun hy => absurd (by simp [yieldR, slotR, *]) hy⟩
                      go_simp
                    · refine ⟨fun _ => ?_, fun hy => absurd (by simp [yieldR, slotR, *]) hy⟩
                      go_simp
                    · refine ⟨fun _ => ?_, fun hy => absurd (by simp [yieldR, slotR, *]) hy⟩
                      go_simp
                    · refine ⟨fun _ => ?_, fun hy => absurd (by simp [yieldR, slotR, *]) hy⟩
                      go_simp
                    · refine ⟨fun _ => ?_, fun hy => absurd (by simp [yieldR, slotR, *]) hy⟩
                      go_simp
                    · refine ⟨fun _ => ?_, fun hy => absurd (by simp [yieldR, slotR, *]) hy⟩
                      go_simp
                    · refine ⟨fun _ => ?_, fun hy => absurd (by simp [yieldR, slotR, *]) hy⟩
                      go_simp
                      refine (refCompare_any d db x).mono ?_
                      rintro e x' ⟨rfl, hb⟩
                      exact ⟨_, rfl, rfl, hb⟩
                    · refine ⟨fun _ => ?_, fun hy => absurd (by simp [yieldR, slotR, *]) hy⟩
                      go_simp
                    · refine ⟨fun _ => ?_, fun hy => absurd (by simp [yieldR, slotR, *]) hy⟩
                      go_simp
                    · go_simp
                  · intro vs y2 hy2 hw
                    simp only [owed, Fx] at hw
                    obtain ⟨e0, e1, e2, e3, e4, e5, e6, e7, e8, e9, e10, e11, e12, e13, e14, e15, e16, -⟩ := hw
                    simp only [List.length_cons, List.length_nil, List.take_succ_cons, List.take_nil, List.drop_succ_cons, List.drop_nil, asg, List.cons_append, List.nil_append, e0, e1, e2, e3, e4, e5, e6, e7, e8, e9, e10, e11, e12, e13, e14, e15, e16]
                    clear e0 e1 e2 e3 e4 e5 e6 e7 e8 e9 e10 e11 e12 e13 e14 e15 e16
                    have HQ : Hid _ := hbest.better hkd (hbh) hdb hc
                    have HB : Hid _ := hBy.trans (hy2.mono hBy.size)
                    clear hBy hy2
                    go_wp2
                    go_roundw
                    case rel => first | exact ⟨k + 1, (k : Nat), by omega, by go_num, rfl, HQ.out, HB.out⟩ | exact ⟨k + 1, by omega, by omega, HQ.out, HB.out⟩ | exact ⟨⟨k + 1, (k : Nat), by omega, by go_num, rfl, HQ.out, HB.out⟩, rfl⟩ | ((repeat apply Exists.intro); refine ⟨⟨k + 1, (k : Nat), by omega, ?_, rfl, HQ.out, HB.out⟩, rfl⟩; go_num)
                    case measure => simp [intOf]; omega
                · have hcm := cmp_pos d db hc
                  go_upto_region 7 with fail
                  refine wp_relies [Fx (.bool true), Fx (.bool true), Fx (.int .i64 (b : Nat)), Fx (.bool false), Fx (.bool false), Fx (.slice (some ⟨bl, ol, none⟩) ds.length c), Fx (.int .i64 (k : Nat)), Fx (.pointer (some ⟨bl, ol + k * 32, none⟩)), Fx (.agg (dg_secA d)), Fx (.slice (some ⟨bl, ol, none⟩) ds.length c), Fx (.int .i64 (b : Nat)), Fx (.pointer (some ⟨bl, ol + b * 32, none⟩)), Fx (.agg (dg_secA db)), Fx (.int .i64 (dcmp d db)), Fx (.bool false), Fx (.bool false), Fx (.bool false)] (by kernel_rfl) (by kernel_rfl) ?_ ?_ ?_
                  · repeat' (first | exact all_nil | apply all_cons)
                    all_goals intro v y y' hv hb
                    all_goals first | exact Fx_mono _ _ _ _ hv hb
                  · refine ⟨?_, ?_, ?_, ?_, ?_, ?_, ?_, ?_, ?_, ?_, ?_, ?_, ?_, ?_, ?_, ?_, ?_, trivial⟩
                    all_goals
                      intro ρ x hp ρc ρg ρf ho hd
                      have o0 : ρ (.tmp 0) = .slice (some ⟨bl, ol, none⟩) ds.length c := ho 0 rfl
                      have o4 : ρ (.tmp 4) = .int .i64 (b : Nat) := ho 4 rfl
                      have o5 : ρ (.tmp 5) = .int .i64 (k : Nat) := ho 5 rfl
                      have o6 : ρ (.tmp 6) = .bool true := ho 6 rfl
                      clear ho
                      have ha := rng_later hp hbl2 (ol + k * 32)
                      have ka := ha.1.trans ok1
                      have ga := ha.2.trans rg1
                      clear ha
                      have hb := rng_later hp hbl2 (ol + b * 32)
                      have kb := hb.1.trans ok3
                      have gb := hb.2.trans rg3
                      clear hb
                      simp only [depsR, depR, slotR, Fx, List.getElem?_cons_succ, List.getElem?_cons_zero, Region.binds, forall_const] at hd
                      simp only [guardR]
                      go_split_ands
                    · go_simp
                    · go_simp
                    · refine ⟨fun _ => ?_, fun hy => absurd (by simp [yieldR, slotR, *]) hy⟩
                      go_simp
                    · refine ⟨fun _ => ?_, fun hy => absurd (by simp [yieldR, slotR, *]) hy⟩
                      go_simp
                    · refine ⟨fun _ => ?_, fun hy => absurd (by simp [yieldR, slotR, *]) hy⟩
                      go_simp
                    · refine ⟨fun _ => ?_, fun hy => absurd (by simp [yieldR, slotR, *]) hy⟩
                      go_simp
                    · refine ⟨fun _ => ?_, fun hy => absurd (by simp [yieldR, slotR, *]) hy⟩
                      go_simp
                    · refine ⟨fun _ => ?_, fun hy => absurd (by simp [yieldR, slotR, *]) hy⟩
                      go_simp
                    · refine ⟨fun _ => ?_, fun hy => absurd (by simp [yieldR, slotR, *]) hy⟩
                      go_simp
                    · refine ⟨fun _ => ?_, fun hy => absurd (by simp [yieldR, slotR, *]) hy⟩
                      go_simp
                    · refine ⟨fun _ => ?_, fun hy => absurd (by simp [yieldR, slotR, *]) hy⟩
                      go_simp
                    · refine ⟨fun _ => ?_, fun hy => absurd (by simp [yieldR, slotR, *]) hy⟩
                      go_simp
                    · refine ⟨fun _ => ?_, fun hy => absurd (by simp [yieldR, slotR, *]) hy⟩
                      go_simp
                    · refine ⟨fun _ => ?_, fun hy => absurd (by simp [yieldR, slotR, *]) hy⟩
                      go_simp
                      refine (refCompare_any d db x).mono ?_
                      rintro e x' ⟨rfl, hb⟩
                      exact ⟨_, rfl, rfl, hb⟩
                    · refine ⟨fun _ => ?_, fun hy => absurd (by simp [yieldR, slotR, *]) hy⟩
                      go_simp
                    · refine ⟨fun _ => ?_, fun hy => absurd (by simp [yieldR, slotR, *]) hy⟩
                      go_simp
                    · go_simp
                  · intro vs y2 hy2 hw
                    simp only [owed, Fx] at hw
                    obtain ⟨e0, e1, e2, e3, e4, e5, e6, e7, e8, e9, e10, e11, e12, e13, e14, e15, e16, -⟩ := hw
                    simp only [List.length_cons, List.length_nil, List.take_succ_cons, List.take_nil, List.drop_succ_cons, List.drop_nil, asg, List.cons_append, List.nil_append, e0, e1, e2, e3, e4, e5, e6, e7, e8, e9, e10, e11, e12, e13, e14, e15, e16]
                    clear e0 e1 e2 e3 e4 e5 e6 e7 e8 e9 e10 e11 e12 e13 e14 e15 e16
                    have HQ : Hid _ := hbest.keep hkd hdb hc
                    have HB : Hid _ := hBy.trans (hy2.mono hBy.size)
                    clear hBy hy2
                    go_wp2
                    go_roundw
                    case rel => first | exact ⟨k + 1, (b : Nat), by omega, by go_num, rfl, HQ.out, HB.out⟩ | exact ⟨k + 1, by omega, by omega, HQ.out, HB.out⟩ | exact ⟨⟨k + 1, (b : Nat), by omega, by go_num, rfl, HQ.out, HB.out⟩, rfl⟩ | ((repeat apply Exists.intro); refine ⟨⟨k + 1, (b : Nat), by omega, ?_, rfl, HQ.out, HB.out⟩, rfl⟩; go_num)
                    case measure => simp [intOf]; omega
          · have hcm0 := cmp_pos lst d hc0
            have hbh := fun h => hc0 (hbl1.1 h)
            go_upto_region 6 with fail
            refine wp_relies [Fx (.slice (some ⟨bo, oo, none⟩) n co), Fx (.int .i64 (n : Nat)), Fx (.bool false), Fx (.bool false), Fx (.slice (some ⟨bo, oo, none⟩) n co), Fx (.slice (some ⟨bo, oo, none⟩) n co), Fx (.int .i64 (n : Nat)), Fx (.int .i64 (m : Nat)), Fx (.pointer (some ⟨bo, oo + m * 32, none⟩)), Fx (.agg (dg_secA lst)), Fx (.slice (some ⟨bl, ol, none⟩) ds.length c), Fx (.int .i64 (k : Nat)), Fx (.pointer (some ⟨bl, ol + k * 32, none⟩)), Fx (.agg (dg_secA d)), Fx (.int .i64 (dcmp lst d)), Fx (.bool false), Fx (.bool false), Fx (.bool false)] (by kernel_rfl) (by kernel_rfl) ?_ ?_ ?_
            · repeat' (first | exact all_nil | apply all_cons)
              all_goals intro v y y' hv hb
              all_goals first | exact Fx_mono _ _ _ _ hv hb
            · refine ⟨?_, ?_, ?_, ?_, ?_, ?_, ?_, ?_, ?_, ?_, ?_, ?_, ?_, ?_, ?_, ?_, ?_, ?_, trivial⟩
              all_goals
                intro ρ x hp ρc ρg ρf ho hd
                have o0 : ρ (.tmp 0) = .slice (some ⟨bl, ol, none⟩) ds.length c := ho 0 rfl
                have o3 : ρ (.tmp 3) = .slice (some ⟨bo, oo, none⟩) n co := ho 3 rfl
                have o5 : ρ (.tmp 5) = .int .i64 (k : Nat) := ho 5 rfl
                clear ho
                have ha := rng_later hp hbl (ol + k * 32)
                have ka := ha.1.trans ok1
                have ga := ha.2.trans rg1
                clear ha
                have hb := rng_later hp hbo (oo + m * 32)
                have kb := hb.1.trans ok2
                have gb := hb.2.trans rg2
                clear hb
                simp only [depsR, depR, slotR, Fx, List.getElem?_cons_succ, List.getElem?_cons_zero, Region.binds, forall_const] at hd
                simp only [guardR]
                go_split_ands
              · go_simp
              · go_simp
              · go_simp
              · go_simp
              · refine ⟨fun _ => ?_, fun hy => absurd (by simp [yieldR, slotR, *]) hy⟩
                go_simp
              · refine ⟨fun _ => ?_, fun hy => absurd (by simp [yieldR, slotR, *]) hy⟩
                go_simp
              · refine ⟨fun _ => ?_, fun hy => absurd (by simp [yieldR, slotR, *]) hy⟩
                go_simp
              · refine ⟨fun _ => ?_, fun hy => absurd (by simp [yieldR, slotR, *]) hy⟩
                go_simp
              · refine ⟨fun _ => ?_, fun hy => absurd (by simp [yieldR, slotR, *]) hy⟩
                go_simp
              · refine ⟨fun _ => ?_, fun hy => absurd (by simp [yieldR, slotR, *]) hy⟩
                go_simp
              · refine ⟨fun _ => ?_, fun hy => absurd (by simp [yieldR, slotR, *]) hy⟩
                go_simp
              · refine ⟨fun _ => ?_, fun hy => absurd (by simp [yieldR, slotR, *]) hy⟩
                go_simp
              · refine ⟨fun _ => ?_, fun hy => absurd (by simp [yieldR, slotR, *]) hy⟩
                go_simp
              · refine ⟨fun _ => ?_, fun hy => absurd (by simp [yieldR, slotR, *]) hy⟩
                go_simp
              · refine ⟨fun _ => ?_, fun hy => absurd (by simp [yieldR, slotR, *]) hy⟩
                go_simp
                refine (refCompare_any lst d x).mono ?_
                rintro e x' ⟨rfl, hb⟩
                exact ⟨_, rfl, rfl, hb⟩
              · refine ⟨fun _ => ?_, fun hy => absurd (by simp [yieldR, slotR, *]) hy⟩
                go_simp
              · go_simp
              · go_simp
            · intro vs y1 hy1 hw
              simp only [owed, Fx] at hw
              obtain ⟨e0, e1, e2, e3, e4, e5, e6, e7, e8, e9, e10, e11, e12, e13, e14, e15, e16, e17, -⟩ := hw
              simp only [List.length_cons, List.length_nil, List.take_succ_cons, List.take_nil, List.drop_succ_cons, List.drop_nil, asg, List.cons_append, List.nil_append, e0, e1, e2, e3, e4, e5, e6, e7, e8, e9, e10, e11, e12, e13, e14, e15, e16, e17]
              clear e0 e1 e2 e3 e4 e5 e6 e7 e8 e9 e10 e11 e12 e13 e14 e15 e16 e17
              have hBy := hBk.trans (hy1.mono hBk.size)
              replace ok1 := (rng_later hy1 hbl (ol + k * 32)).1.trans ok1
              replace rg1 := (rng_later hy1 hbl (ol + k * 32)).2.trans rg1
              have hbl2 : bl < y1.heap.size := Nat.lt_of_lt_of_le hbl hy1.size
              go_upto_region 7 with fail
              refine wp_relies [Fx (.bool false), Fx (.bool false), Fx (undef), Fx (undef), Fx (undef), Fx (undef), Fx (undef), Fx (undef), Fx (undef), Fx (undef), Fx (undef), Fx (undef), Fx (undef), Fx (undef), Fx (undef), Fx (undef), Fx (.bool false)] (by kernel_rfl) (by kernel_rfl) ?_ ?_ ?_
              · repeat' (first | exact all_nil | apply all_cons)
                all_goals intro v y y' hv hb
                all_goals first | exact Fx_mono _ _ _ _ hv hb
              · refine ⟨?_, ?_, ?_, ?_, ?_, ?_, ?_, ?_, ?_, ?_, ?_, ?_, ?_, ?_, ?_, ?_, ?_, trivial⟩
                all_goals
                  intro ρ x hp ρc ρg ρf ho hd
                  have o6 : ρ (.tmp 6) = .bool false := ho 6 rfl
                  clear ho
                  simp only [depsR, depR, slotR, Fx, List.getElem?_cons_succ, List.getElem?_cons_zero, Region.binds, forall_const] at hd
                  simp only [guardR]
                  go_split_ands
                · go_simp
                · go_simp
                · refine ⟨fun hy => ?_, fun _ => rfl⟩
                  exfalso; simp [yieldR, slotR, undef, *] at hy
                · refine ⟨fun hy => ?_, fun _ => rfl⟩
                  exfalso; simp [yieldR, slotR, undef, *] at hy
                · refine ⟨fun hy => ?_, fun _ => rfl⟩
                  exfalso; simp [yieldR, slotR, undef, *] at hy
                · refine ⟨fun hy => ?_, fun _ => rfl⟩
                  exfalso; simp [yieldR, slotR, undef, *] at hy
                · refine ⟨fun hy => ?_, fun _ => rfl⟩
                  exfalso; simp [yieldR, slotR, undef, *] at hy
                · refine ⟨fun hy => ?_, fun _ => rfl⟩
                  exfalso; simp [yieldR, slotR, undef, *] at hy
                · refine ⟨fun hy => ?_, fun _ => rfl⟩
                  exfalso; simp [yieldR, slotR, undef, *] at hy
                · refine ⟨fun hy => ?_, fun _ => rfl⟩
                  exfalso; simp [yieldR, slotR, undef, *] at hy
                · refine ⟨fun hy => ?_, fun _ => rfl⟩
                  exfalso; simp [yieldR, slotR, undef, *] at hy
                · refine ⟨fun hy => ?_, fun _ => rfl⟩
                  exfalso; simp [yieldR, slotR, undef, *] at hy
                · refine ⟨fun hy => ?_, fun _ => rfl⟩
                  exfalso; simp [yieldR, slotR, undef, *] at hy
                · refine ⟨fun hy => ?_, fun _ => rfl⟩
                  exfalso; simp [yieldR, slotR, undef, *] at hy
                · refine ⟨fun hy => ?_, fun _ => rfl⟩
                  exfalso; simp [yieldR, slotR, undef, *] at hy
                · refine ⟨fun hy => ?_, fun _ => rfl⟩
                  exfalso; simp [yieldR, slotR, undef, *] at hy
                · go_simp
              · intro vs y2 hy2 hw
                simp only [owed, Fx] at hw
                obtain ⟨e0, e1, e2, e3, e4, e5, e6, e7, e8, e9, e10, e11, e12, e13, e14, e15, e16, -⟩ := hw
                simp only [List.length_cons, List.length_nil, List.take_succ_cons, List.take_nil, List.drop_succ_cons, List.drop_nil, asg, List.cons_append, List.nil_append, e0, e1, e2, e3, e4, e5, e6, e7, e8, e9, e10, e11, e12, e13, e14, e15, e16]
                clear e0 e1 e2 e3 e4 e5 e6 e7 e8 e9 e10 e11 e12 e13 e14 e15 e16
                have HQ : Hid _ := hbest.no hkd hbh
                have HB : Hid _ := hBy.trans (hy2.mono hBy.size)
                clear hBy hy2
                go_wp2
                go_roundw
                case rel => first | exact ⟨k + 1, bst, by omega, by go_num, rfl, HQ.out, HB.out⟩ | exact ⟨k + 1, by omega, by omega, HQ.out, HB.out⟩ | exact ⟨⟨k + 1, bst, by omega, by go_num, rfl, HQ.out, HB.out⟩, rfl⟩ | ((repeat apply Exists.intro); refine ⟨⟨k + 1, bst, by omega, ?_, rfl, HQ.out, HB.out⟩, rfl⟩; go_num)
                case measure => simp [intOf]; omega
      · obtain rfl : k = ds.length := by omega
        rcases hbest.form with rfl | ⟨b, db, rfl, hbk, hdb⟩
        · have HS : Hid (SortedTo ds rs) := hU.done hbest.none
          have HO : Hid _ := hO.keep hBk
          have HB : Hid _ := hB.trans (hBk.mono hB.size)
          clear hbest hU hO hB hBk
          go_wp2
          go_ret
          exact ⟨_, rs, rfl, HO.out, HS.out, HB.out⟩
        · obtain ⟨hm1, hm2, hm3⟩ := hbest.some hdb
          have HU : Hid (SortUp ds (rs ++ [db])) := hU.more hm1 hm2 hm3
          obtain ⟨bl, ol, rfl, hbl, ok3, rg3⟩ := ((hd.kept hB).kept hBk).at b db hdb
          have hb0 : (0 : Int) ≤ (b : Int) := by omega
          have hb1 : (b : Int) < (ds.length : Int) := by omega
          have hb2 : ¬ (b : Int) < 0 := by omega
          have hlr := HU.out.len
          rw [List.length_append] at hlr
          have hsz : w.heap.size ≤ wr.heap.size := Nat.le_trans hB.size hBk.size
          obtain ⟨v', w', hr, hO', -, hB', -⟩ := run_app1D (wr.alloc (.cells (dg_secA db) 23)) w.heap.size wr.heap.size (.slice xo rs.length co) rs db 31 ((hO.keep hBk).keep (below_alloc _ _)) (fun j u hu => by rw [Nat.zero_add, World.cell?_alloc_at _ _ _ _ rfl]; rw [Array.getElem?_toList] at hu; exact hu) (by omega) (by simp; omega)
          have HB : Hid (Below w.heap.size w w') := ((hB.trans (hBk.mono hB.size)).alloc hsz _).trans hB'
          obtain ⟨x', c', rfl⟩ := hO'.isDs.len
          have hl9 : (rs ++ [db]).length = rs.length + 1 := by simp
          rw [hl9] at hO' hr
          have HO : Hid _ := hO'
          have HM : Hid (ds.length - (rs.length + 1) < ds.length - rs.length) := by show _ < _; simp at hlr; omega
          clear hbest hU hO hB hBk hO' hB' hm1 hm2 hm3 hlr hl9
          go_wp2_with (at_builtin; refine wpL_appD rfl _ _ rfl _ w' (by exact hr) ?_)
          go_roundw
          case rel => first | exact ⟨rs ++ [db], HO.out, HU.out, HB.out⟩ | exact ⟨⟨rs ++ [db], HO.out, HU.out, HB.out⟩, rfl⟩ | ((repeat apply Exists.intro); exact ⟨⟨rs ++ [db], HO.out, HU.out, HB.out⟩, rfl⟩)
          case measure => simpa [slen] using HM.out
end Go.Proofs.Ythkjfgncbmpllaa
