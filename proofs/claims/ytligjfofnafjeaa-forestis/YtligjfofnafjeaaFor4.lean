
import Derived.Test.YtligjfofnafjeaaFor3
import Derived.Test.YtligjfofnafjeaaMku
namespace Go.Proofs.Ytligjfofnafjeaa
open Go.RowKit

/-! assayref21.Of -/
section
variable (ρ : Operand → Value) (dst : Option Tmp) (ty : TypeId) (pos : String) (after : Array Edge) (guard : Option (Nat × Bool))
@[go_sem ↓] theorem execOp_load_fo (x : Operand) : execOp ρ { dst, op := .load 43 x, type := ty, pos, after, guard } = bigLoad 43 (ρ x) := rfl
@[go_sem ↓] theorem execOp_store_fo (x y : Operand) : execOp ρ { dst, op := .store 43 x y, type := ty, pos, after, guard } = bigStore 43 (ρ x) (ρ y) := rfl
@[go_sem ↓] theorem execOp_alloc_fo : execOp ρ { dst, op := .alloc 43, type := ty, pos, after, guard } = bigAlloc 43 := rfl
@[go_sem ↓] theorem execOp_box_fo (x : Operand) : execOp ρ { dst, op := .box 43 x, type := ty, pos, after, guard } = bigBox 43 (ρ x) := rfl
end
theorem info_fo : (Try.prog.info? 43).map (fun i => (i.zero, i.size)) = some (some (.agg (foA foZ)), 6) := by kernel_rfl
theorem sizeT_fo : (Try.prog.info? 43).map (·.size) = some 6 := (zero_of_info info_fo).2
@[go_sem] theorem run_load_fo (w : World) (g : Nat) (h : rowL w g = true) (hs : (rowAt w g).size = 6) : (bigLoad 43 (.pointer (some ⟨g, 0, none⟩))).run Try.prog w = .ok (.value (.agg (rowAt w g))) w := by
  rw [run_bigLoad 43 _ 6 Try.underlying43 rfl sizeT_fo w g 0 h (by omega), Nat.zero_add, Array.extract_eq_self_of_le (by omega)]
@[go_sem] theorem run_store_fo (w : World) (g : Nat) (c : Array Value) (h : rowL w g = true) (hs : (rowAt w g).size = 6) (hc : c.size = 6) (h1 : OneC c = true) : (bigStore 43 (.pointer (some ⟨g, 0, none⟩)) (.agg c)).run Try.prog w = .ok .skip (w.setRow g c) := by
  rw [run_bigStore 43 6 sizeT_fo w g 0 c h hc (by omega) h1, layC_all _ _ (by omega)]
@[go_sem] theorem run_alloc_fo (w : World) : (bigAlloc 43).run Try.prog w = .ok (.value (.pointer (some ⟨w.heap.size, 0, none⟩))) (w.alloc (.cells (foA foZ) 43)) := by
  simp only [bigAlloc, Instr.alloc, Sem.run_bind, (zero_of_info info_fo).1 w, Result.andThen_ok]
  rfl
@[go_sem] theorem run_box_fo (w : World) (c : Array Value) : (bigBox 43 (.agg c)).run Try.prog w = .ok (.value (.pointer (some ⟨w.heap.size, 0, none⟩))) (w.alloc (.cells c 43)) := run_bigBox _ c w
theorem fo_bodyPost1 {fn : Func} {R : Ending → World → Prop} {a : Act} {w : World} (p n : Nat) (V : Nat → Value) (hres : fn.results = #[.cell p 43]) (hp : a.tmps.getD p undef = .pointer (some ⟨n, 0, none⟩)) (hd : a.defers = [])
    (hok : RowC w n (foA V)) (h : R (.returned (.agg (foA V))) w) : bodyPost Try.prog fn R .ret a w := by
  obtain ⟨t, hg⟩ := row_of_L hok.1
  rw [hok.2] at hg
  have hp' : a.tmps[p]?.getD undef = .pointer (some ⟨n, 0, none⟩) := by simpa using hp
  have hl := run_loadVar_row (P := Try.prog) w n t 43 (foA V) (0, 0) _ hg Try.underlying43 rfl (by rw [sizeT_fo, foA_size])
  refine bodyPost_ret (v := .agg (foA V)) ?_ hd h
  simp [results, hres, hp', asAddr, hl]
def foBd (x y : Value) : Sem Next := do pure (.value (← Instr.build 43 #[(0, x), (1, y)]))
@[go_sem ↓] theorem execOp_foBd (ρ : Operand → Value) (dst : Option Tmp) (ty : TypeId) (pos : String) (after : Array Edge) (guard : Option (Nat × Bool)) (x y : Operand) : execOp ρ { dst, op := .build 43 #[(0, x), (1, y)], type := ty, pos, after, guard } = foBd (ρ x) (ρ y) := by simp [execOp, foBd]
/-- Two lists, the others none. -/
def two21 (a b : Value) : Nat → Value := fun k => if k = 0 then a else if k = 1 then b else nilV
@[go_sem] theorem run_foBd (w : World) (x y : Option Addr) (n m c d : Nat) : (foBd (.slice x n c) (.slice y m d)).run Try.prog w = .ok (.value (.agg (foA (two21 (.slice x n c) (.slice y m d))))) w := by
  simp only [foBd, Sem.run_bind]
  rw [run_build w 43 _ (foA (two21 (.slice x n c) (.slice y m d))) (by kernel_rfl)]
  rfl
section
variable {n : Nat} {w w0 W : World} {ro : Option (Nat × Array Value)} {V : Nat → Value} {K : Nat → Bool} {P : Nat → Nat} {L : Nat → List Nat}
theorem own_type {e e' : TypeId} {B B' : Nat} {v v' : Value} {xs xs' : List Value} (h : OwnG e W B v xs) (h' : OwnG e' W B' v' xs') (hne : e ≠ e') : ∀ q ∈ v.ownBlock.toList, q ∉ v'.ownBlock.toList := by
  intro q hq hq'
  rcases h.2 with h1 | ⟨g, cap, cur, rfl, -, h2, -⟩
  · rw [h1.1] at hq; simp [Value.ownBlock] at hq
  · rcases h'.2 with h3 | ⟨g', cap', cur', rfl, -, h4, -⟩
    · rw [h3.1] at hq'; simp [Value.ownBlock] at hq'
    · simp [Value.ownBlock] at hq hq'
      subst hq
      subst hq'
      rw [h2] at h4
      simp only [Option.some.injEq, Obj.cells.injEq] at h4
      exact hne h4.2.1
theorem own_cells {e t : TypeId} {B q : Nat} {v : Value} {xs : List Value} {c : Array Value} (h : OwnG e W B v xs) (hq : W.heap[q]? = some (.cells c t (0, 0))) (hne : e ≠ t) : q ∉ v.ownBlock.toList := by
  intro hm
  rcases h.2 with h1 | ⟨g, cap, cur, rfl, -, h2, -⟩
  · rw [h1.1] at hm; simp [Value.ownBlock] at hm
  · simp [Value.ownBlock] at hm
    subst hm
    rw [h2] at hq
    simp only [Option.some.injEq, Obj.cells.injEq] at hq
    exact hne hq.2.1
theorem Fo.begin {t : TypeId} {q : Nat} {a b : Value} {c : Array Value} (hB : Below w.heap.size w W) (ha : OwnG 4 W w.heap.size a (bF K n)) (hb : OwnG 33 W w.heap.size b (uF P n)) (hr : W.heap[q]? = some (.cells c t (0, 0))) (hq : w.heap.size ≤ q) (n1 : 4 ≠ t) (n2 : 33 ≠ t) : Fo n w W (some (q, c)) (two21 a b) K P (fun _ => []) := by
  have hrow : RowC W q c := ⟨by unfold rowL; rw [hr]; rfl, by unfold rowAt; rw [hr]⟩
  refine ⟨⟨hB.size, fun k => if k = 0 then a.ownBlock.toList else if k = 1 then b.ownBlock.toList else if k = 6 then [q] else [], fun k => if k = 0 then a.ownBlock.toList else if k = 1 then b.ownBlock.toList else if k = 6 then [q] else [], fun k t9 hk => ?_, fun i j ti tj hi hj hne p hp hp' => ?_⟩, hB⟩
  · unfold T21 at hk
    by_cases h0 : k = 0
    · rw [if_pos h0] at hk
      cases hk
      simp only [if_pos h0]
      exact ⟨⟨ha, rfl, rfl⟩, fun p hp => (ha.lt p (by simpa using hp)).1⟩
    · rw [if_neg h0] at hk
      simp only [if_neg h0]
      by_cases h1 : k = 1
      · rw [if_pos h1] at hk
        cases hk
        simp only [if_pos h1]
        exact ⟨⟨hb, rfl, rfl⟩, fun p hp => (hb.lt p (by simpa using hp)).1⟩
      · rw [if_neg h1] at hk
        simp only [if_neg h1]
        by_cases h6 : k < 6
        · rw [if_pos h6] at hk
          cases hk
          have e9 : two21 a b k = nilV := by unfold two21; rw [if_neg h0, if_neg h1]
          rw [if_neg (by omega), e9]
          exact ⟨⟨OwnG.nil _ _ _, rfl, rfl⟩, fun p hp => by cases hp⟩
        · rw [if_neg h6] at hk
          by_cases h7 : k = 6
          · rw [if_pos h7] at hk
            cases hk
            simp only [if_pos h7]
            exact ⟨⟨hrow, rfl, rfl⟩, fun p hp => by rw [List.mem_singleton] at hp; omega⟩
          · rw [if_neg h7] at hk; cases hk
  · have key : ∀ (i : Nat), (if i = 0 then a.ownBlock.toList else if i = 1 then b.ownBlock.toList else if i = 6 then [q] else []) = (if i = 0 then a.ownBlock.toList else if i = 1 then b.ownBlock.toList else if i = 6 then [q] else ([] : List Nat)) := fun _ => rfl
    have a1 := own_type ha hb (by decide)
    have a2 := own_type hb ha (by decide)
    have a3 := own_cells ha hr n1
    have a4 := own_cells hb hr n2
    by_cases i0 : i = 0
    · simp only [if_pos i0] at hp
      by_cases j0 : j = 0
      · omega
      · simp only [if_neg j0] at hp'
        by_cases j1 : j = 1
        · simp only [if_pos j1] at hp'; exact a1 p hp hp'
        · simp only [if_neg j1] at hp'
          by_cases j6 : j = 6
          · simp only [if_pos j6] at hp'; rw [List.mem_singleton] at hp'; subst hp'; exact a3 hp
          · simp only [if_neg j6] at hp'; cases hp'
    · simp only [if_neg i0] at hp
      by_cases i1 : i = 1
      · simp only [if_pos i1] at hp
        by_cases j0 : j = 0
        · simp only [if_pos j0] at hp'; exact a2 p hp hp'
        · simp only [if_neg j0] at hp'
          by_cases j1 : j = 1
          · omega
          · simp only [if_neg j1] at hp'
            by_cases j6 : j = 6
            · simp only [if_pos j6] at hp'; rw [List.mem_singleton] at hp'; subst hp'; exact a4 hp
            · simp only [if_neg j6] at hp'; cases hp'
      · simp only [if_neg i1] at hp
        by_cases i6 : i = 6
        · simp only [if_pos i6] at hp
          rw [List.mem_singleton] at hp
          subst hp
          by_cases j0 : j = 0
          · simp only [if_pos j0] at hp'; exact a3 hp'
          · simp only [if_neg j0] at hp'
            by_cases j1 : j = 1
            · simp only [if_pos j1] at hp'; exact a4 hp'
            · simp only [if_neg j1] at hp'
              by_cases j6 : j = 6
              · omega
              · simp only [if_neg j6] at hp'; cases hp'
        · simp only [if_neg i6] at hp; cases hp
/-- A lower beginning. -/
theorem ga_down {B B' : Nat} (h : Ga W B (T21 B n ro V K P L)) (hb : B' ≤ B) : Ga W B' (T21 B' n ro V K P L) := by
  obtain ⟨h0, F, R, h1, h2⟩ := h
  have hk : ∀ k t, T21 B' n ro V K P L k = some t → ∃ t', T21 B n ro V K P L k = some t' ∧ ∀ F R, t'.P W F R → t.P W F R := by
    intro k t hk
    unfold T21 at hk ⊢
    by_cases h0 : k = 0
    · rw [if_pos h0] at hk ⊢; cases hk; exact ⟨_, rfl, fun F R hP => ⟨hP.1.le hb, hP.2⟩⟩
    · rw [if_neg h0] at hk ⊢
      by_cases h1 : k = 1
      · rw [if_pos h1] at hk ⊢; cases hk; exact ⟨_, rfl, fun F R hP => ⟨hP.1.le hb, hP.2⟩⟩
      · rw [if_neg h1] at hk ⊢
        by_cases h6 : k < 6
        · rw [if_pos h6] at hk ⊢; cases hk; exact ⟨_, rfl, fun F R hP => ⟨hP.1.le hb, hP.2⟩⟩
        · rw [if_neg h6] at hk ⊢
          exact ⟨t, hk, fun _ _ hP => hP⟩
  refine ⟨Nat.le_trans hb h0, F, R, fun k t ht => ?_, fun i j ti tj hi hj hne => ?_⟩
  · obtain ⟨t', a1, a2⟩ := hk k t ht
    exact ⟨a2 _ _ (h1 k t' a1).1, fun q hq => Nat.le_trans hb ((h1 k t' a1).2 q hq)⟩
  · obtain ⟨ti', a1, -⟩ := hk i ti hi
    obtain ⟨tj', b1, -⟩ := hk j tj hj
    exact h2 i j ti' tj' a1 b1 hne
theorem Fo.down (h : Fo n w0 W ro V K P L) (hb : Below w.heap.size w w0) : Fo n w W ro V K P L := ⟨ga_down h.ga hb.size, hb.trans (h.be.mono hb.size)⟩
theorem T21_same {B : Nat} {k : Nat} {t : Th} (hk : T21 B n ro V K P L k = some t) {F R : List Nat} (hP : t.P W F R) : R = F := by
  unfold T21 at hk
  by_cases h0 : k = 0
  · rw [if_pos h0] at hk; cases hk; exact hP.2.2
  · rw [if_neg h0] at hk
    by_cases h1 : k = 1
    · rw [if_pos h1] at hk; cases hk; exact hP.2.2
    · rw [if_neg h1] at hk
      by_cases h6 : k < 6
      · rw [if_pos h6] at hk; cases hk; exact hP.2.2
      · rw [if_neg h6] at hk
        by_cases h7 : k = 6
        · rw [if_pos h7] at hk
          obtain ⟨r, -, rfl⟩ := Option.map_eq_some_iff.1 hk
          exact hP.2.2
        · rw [if_neg h7] at hk; cases hk
/-- A block ahead of them turns. -/
theorem ga_other {B g : Nat} {W' : World} (h : Ga W B (T21 B n ro V K P L)) (hg : g < B) (hK : Keep [g] W W') : Ga W' B (T21 B n ro V K P L) := by
  obtain ⟨h0, F, R, h1, h2⟩ := h
  refine ⟨Nat.le_trans h0 hK.size, F, R, fun k t ht => ⟨t.keeps (h1 k t ht).1 hK (fun q hq hm => ?_), (h1 k t ht).2⟩, h2⟩
  rw [T21_same ht (h1 k t ht).1] at hq
  have := (h1 k t ht).2 q hq
  rw [List.mem_singleton] at hm
  omega
end
/-- The lists behind the first a slots of the first look, b of the second. -/
def FL (F : Fr) (a b : Nat) : Nat → List Nat := fun q => if q = 2 then Fr.sel F.twice a else if q = 3 then Fr.sel F.noLa a else if q = 4 then Fr.sel F.noPa b else if q = 5 then Fr.sel F.cyc b else []
def FoP (l : List Rw) (w : World) (e : Ending) (w' : World) : Prop := ∃ V, e = .returned (.agg (foA V)) ∧ Fo l.length w w' none V (frO l).kp (frO l).par (FL (frO l) l.length l.length)
theorem sel_no {p : Nat → Bool} {n : Nat} (h : p n = false) : Fr.sel p (n + 1) = Fr.sel p n := by rw [sel_succ, h]; simp
theorem sel_yes {p : Nat → Bool} {n : Nat} (h : p n = true) : Fr.sel p (n + 1) = Fr.sel p n ++ [n] := by rw [sel_succ, h]; simp
theorem sel_le (p : Nat → Bool) (n : Nat) : (Fr.sel p n).length ≤ n := by
  have := List.length_filter_le p (List.range n)
  rw [List.length_range] at this; exact this
theorem FL_len (F : Fr) (a b q : Nat) (m : Nat) (ha : a ≤ m) (hb : b ≤ m) : (FL F a b q).length ≤ m := by
  unfold FL
  have h1 := sel_le F.twice a
  have h2 := sel_le F.noLa a
  have h3 := sel_le F.noPa b
  have h4 := sel_le F.cyc b
  split; · omega
  split; · omega
  split; · omega
  split; · omega
  simp
/-- One slot more of the first look. -/
theorem FL_a (F : Fr) (a b : Nat) (h1 : F.twice a = false) (h2 : F.noLa a = false) : FL F (a + 1) b = FL F a b := by
  funext q; unfold FL; rw [sel_no h1, sel_no h2]
theorem FL_a2 (F : Fr) (a b : Nat) (h1 : F.twice a = true) (h2 : F.noLa a = false) : FL F (a + 1) b = updL (FL F a b) 2 (FL F a b 2 ++ [a]) := by
  funext q; unfold FL updL
  by_cases e : q = 2
  · subst e; simp only [if_true]; exact sel_yes h1
  · simp only [if_neg e]; rw [sel_no h2]
theorem FL_a3 (F : Fr) (a b : Nat) (h1 : F.twice a = false) (h2 : F.noLa a = true) : FL F (a + 1) b = updL (FL F a b) 3 (FL F a b 3 ++ [a]) := by
  funext q; unfold FL updL
  by_cases e : q = 3
  · subst e; simp only [if_true, if_neg (show ¬ 3 = 2 by omega)]; exact sel_yes h2
  · simp only [if_neg e]; rw [sel_no h1]
theorem FL_b (F : Fr) (a b : Nat) (h1 : F.noPa b = false) (h2 : F.cyc b = false) : FL F a (b + 1) = FL F a b := by
  funext q; unfold FL; rw [sel_no h1, sel_no h2]
theorem FL_b4 (F : Fr) (a b : Nat) (h1 : F.noPa b = true) (h2 : F.cyc b = false) : FL F a (b + 1) = updL (FL F a b) 4 (FL F a b 4 ++ [b]) := by
  funext q; unfold FL updL
  by_cases e : q = 4
  · subst e; simp only [if_true, if_neg (show ¬ 4 = 2 by omega), if_neg (show ¬ 4 = 3 by omega)]; exact sel_yes h1
  · simp only [if_neg e]; rw [sel_no h2]
theorem FL_b5 (F : Fr) (a b : Nat) (h1 : F.noPa b = false) (h2 : F.cyc b = true) : FL F a (b + 1) = updL (FL F a b) 5 (FL F a b 5 ++ [b]) := by
  funext q; unfold FL updL
  by_cases e : q = 5
  · subst e; simp only [if_true, if_neg (show ¬ 5 = 2 by omega), if_neg (show ¬ 5 = 3 by omega), if_neg (show ¬ 5 = 4 by omega)]; exact sel_yes h2
  · simp only [if_neg e]; rw [sel_no h1]
/-- The kept ones among the first i. -/
def Kt (F : Fr) (i : Nat) : Nat → Bool := fun k => decide (k < i) && F.kp k
theorem Kt_no (F : Fr) (i : Nat) (h : F.kp i = false) : Kt F (i + 1) = Kt F i := by
  funext k; unfold Kt
  by_cases e : k = i
  · subst e; rw [h, Bool.and_false, Bool.and_false]
  · rw [show decide (k < i + 1) = decide (k < i) from decide_eq_decide.2 (by omega)]
theorem Kt_yes (F : Fr) (i : Nat) (h : F.kp i = true) : Kt F (i + 1) = fun j => if j = i then true else Kt F i j := by
  funext k; unfold Kt
  by_cases e : k = i
  · subst e; rw [if_pos rfl, h, decide_eq_true (by omega)]; rfl
  · rw [if_neg e, show decide (k < i + 1) = decide (k < i) from decide_eq_decide.2 (by omega)]
/-- Is a lower one with that id there? -/
theorem Kt_low (F : Fr) (i : Nat) (hi : i < F.n) : (0 ≤ fnd (fun k => Kt F i k && F.id k == F.id i) F.n) ↔ F.lower i = true := by
  rcases fnd_spec (fun k => Kt F i k && F.id k == F.id i) F.n with ⟨h1, h2⟩ | ⟨k, h1, h2, h3, -⟩
  · rw [h1]
    constructor
    · intro h; omega
    · intro h
      exfalso
      obtain ⟨k, k1, k2, k3⟩ := Fr.lower_iff.1 h
      obtain ⟨j, j1, j2, j3⟩ := Fr.kp_first k k2
      have := h2 j (by omega)
      unfold Kt at this
      rw [decide_eq_true (by omega), j2, j3, k3] at this
      simp at this
  · rw [h1]
    unfold Kt at h3
    simp at h3
    exact ⟨fun _ => Fr.lower_iff.2 ⟨k, h3.1.1, Fr.kp_cd h3.1.2, h3.2⟩, fun _ => by omega⟩
/-- What the parents are behind the first i. -/
def Pt (F : Fr) (i : Nat) : Nat → Nat := fun k => if k < i then F.par k else 0
theorem Pt_no (F : Fr) (i : Nat) (h : F.par i = 0) : Pt F (i + 1) = Pt F i := by
  funext k; unfold Pt
  by_cases e : k = i
  · subst e; rw [if_pos (by omega), if_neg (by omega), h]
  · by_cases h2 : k < i
    · rw [if_pos (by omega), if_pos h2]
    · rw [if_neg (by omega), if_neg h2]
theorem Pt_set (F : Fr) (i v : Nat) (h : F.par i = v) : Pt F (i + 1) = fun j => if j = i then v else Pt F i j := by
  funext k; unfold Pt
  by_cases e : k = i
  · subst e; rw [if_pos (by omega), if_pos rfl, h]
  · rw [if_neg e]
    by_cases h2 : k < i
    · rw [if_pos (by omega), if_pos h2]
    · rw [if_neg (by omega), if_neg h2]
theorem rg_lt (F : Fr) : ∀ (f i k : Nat) (out : List Nat), k < F.n → ∀ q ∈ F.rg f i k out, q ∈ out ∨ q < F.n
  | 0, _, _, _, _, q, hq => by cases hq
  | f + 1, i, k, out, hk, q, hq => by
    unfold Fr.rg at hq
    rcases Fr.nx_spec (F := F) k with h1 | ⟨j, h1, h2, -, -⟩
    · rw [h1, if_pos (by omega)] at hq; cases hq
    · rw [h1, if_neg (by omega)] at hq
      by_cases e : j = i
      · rw [if_pos (by rw [e])] at hq
        simp at hq
        rcases hq with hq | hq
        · exact .inl hq
        · exact .inr (by omega)
      · rw [if_neg (by omega), Int.toNat_natCast] at hq
        rcases rg_lt F f i j (out ++ [k]) h2 q hq with h9 | h9
        · simp at h9
          rcases h9 with h9 | h9
          · exact .inl h9
          · exact .inr (by omega)
        · exact .inr h9
theorem ring_lt (F : Fr) (i : Nat) (hi : i < F.n) : ∀ q ∈ F.ring i, q < F.n := fun q hq => by
  rcases rg_lt F (F.n + 1) i i [] hi q hq with h | h
  · cases h
  · exact h
theorem rg_len (F : Fr) : ∀ (f i k : Nat) (out : List Nat), (F.rg f i k out).length ≤ out.length + f
  | 0, _, _, _ => by unfold Fr.rg; simp
  | f + 1, i, k, out => by
    unfold Fr.rg
    split
    · simp
    · split
      · simp
      · have := rg_len F f i (F.nx k).toNat (out ++ [k])
        simp at this ⊢
        omega
end Go.Proofs.Ytligjfofnafjeaa
