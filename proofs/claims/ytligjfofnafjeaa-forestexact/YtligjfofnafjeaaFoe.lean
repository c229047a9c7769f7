
import Derived.Test.YtligjfofnafjeaaFod
namespace Go.Proofs.Ytligjfofnafjeaa
open Go.RowKit

/-! Rows held against each other; the lists of two answers as one game -/
theorem run_equal_dg8 (w : World) (s t : Nat → UInt8) : (Op.equalIn 9998 35 (.agg (dg_secA s)) (.agg (dg_secA t))).run Try.prog w = .ok (dg_secEq s t) w := by
  rw [dg_secA_cells, dg_secA_cells, run_equalIn_bytes w 9996 35 5 32 Try.underlying35 Try.underlying5 dg_sizeE _ _ (by simp) (by simp), dg_beq_secL]
theorem run_equal_sn9 (w : World) (x : Sn) : (Op.equalIn 9999 37 (.agg (snA x)) (.agg (snA x))).run Try.prog w = .ok true w := by
  have p0 : ∀ (x : Sn) (W : World), (part 33 (snA x) 0).run Try.prog W = .ok (.int .u32 x.id) W := fun x W => by
    unfold part
    simp only [Sem.run_bind, Try.isAgg33, Result.andThen_ok, Bool.false_eq_true, if_false, snA_0, Sem.run_pure]
  have p1 : ∀ (x : Sn) (W : World), (part 33 (snA x) 1).run Try.prog W = .ok (.int .u32 x.pa) W := fun x W => by
    unfold part
    simp only [Sem.run_bind, Try.isAgg33, Result.andThen_ok, Bool.false_eq_true, if_false, snA_1, Sem.run_pure]
  have pk : ∀ (x : Sn) (W : World), (part 35 (snA x) 2).run Try.prog W = .ok (.agg (dg_secA x.key)) W := fun x W => by
    unfold part
    simp only [Sem.run_bind, Try.isAgg35, Result.andThen_ok, if_true, Try.sizeOf35, Sem.run_pure, snA_dig]
  have qu32 : ∀ (a b : Int) (W : World), (Op.equalIn 9998 33 (.int .u32 a) (.int .u32 b)).run Try.prog W = .ok (a == b) W := fun a b W => run_equalIn_int W 9997 33 .u32 .u32 _ _ Try.underlying33
  rw [run_equalIn_struct w 9998 37 _ _ (by kernel_rfl) (by kernel_rfl)]
  simp only [Program.fieldsOf, Try.underlying37]
  simp [Op.eqFields, p0, p1, pk, qu32, run_equal_dg8, (dg_secEq_iff x.key x.key).2 (fun _ _ => rfl)]
theorem rwA_snp (e : Rw) : (rwA e).extract 2 (2 + 34) = snA e.sn := by
  apply Array.ext_getElem?
  intro i
  by_cases hi : i < 34
  · rw [Array.getElem?_extract, if_pos (by rw [rwA_size]; omega), rwA_sn]
  · rw [Array.getElem?_eq_none (by simp [rwA_size]; omega), Array.getElem?_eq_none (by rw [snA_size]; omega)]
theorem run_equal_rf (w : World) (x : Rw) : (Op.equalIn 10000 45 (.agg (rwA x)) (.agg (rwA x))).run Try.prog w = .ok true w := by
  have p0 : ∀ (x : Rw) (W : World), (part 4 (rwA x) 0).run Try.prog W = .ok (.bool x.th) W := fun x W => by
    unfold part
    simp only [Sem.run_bind, Try.isAgg4, Result.andThen_ok, Bool.false_eq_true, if_false, rwA_0, Sem.run_pure]
  have p1 : ∀ (x : Rw) (W : World), (part 4 (rwA x) 1).run Try.prog W = .ok (.bool x.la) W := fun x W => by
    unfold part
    simp only [Sem.run_bind, Try.isAgg4, Result.andThen_ok, Bool.false_eq_true, if_false, rwA_1, Sem.run_pure]
  have pk : ∀ (x : Rw) (W : World), (part 37 (rwA x) 2).run Try.prog W = .ok (.agg (snA x.sn)) W := fun x W => by
    unfold part
    simp only [Sem.run_bind, Try.isAgg37, Result.andThen_ok, if_true, Try.sizeOf37, Sem.run_pure, rwA_snp]
  have qb : ∀ (a b : Bool) (W : World), (Op.equalIn 9999 4 (.bool a) (.bool b)).run Try.prog W = .ok (a == b) W := fun a b W => run_equalIn_bool W 9998 4 a b Try.underlying4
  rw [run_equalIn_struct w 9999 45 _ _ (by kernel_rfl) (by kernel_rfl)]
  simp only [Program.fieldsOf, Try.underlying45]
  simp [Op.eqFields, p0, p1, pk, qb, run_equal_sn9]
def rfBin (op : BinOp) (x y : Operand) (u v : Value) : Sem Next := do pure (.value (← (do eqGuard op 45 x y u v; binOp op 45 u v)))
@[go_sem ↓] theorem execOp_rfBin (ρ : Operand → Value) (dst : Option Tmp) (ty ty' : TypeId) (pos : String) (after : Array Edge) (guard : Option (Nat × Bool)) (op : BinOp) (x y : Operand) : execOp ρ { dst, op := .binOp op 45 x y ty', type := ty, pos, after, guard } = rfBin op x y (ρ x) (ρ y) := rfl
theorem eqGuard_rf (w : World) (op : BinOp) (x y : Operand) (xs ys : Array Value) : (eqGuard op 45 x y (.agg xs) (.agg ys)).run Try.prog w = .ok () w :=
  run_eqGuard_agg w op 45 x y xs ys (by kernel_rfl)
@[go_sem] theorem run_rfNeq (w : World) (x y : Operand) (s : Rw) : (rfBin .neq x y (.agg (rwA s)) (.agg (rwA s))).run Try.prog w = .ok (.value (.bool false)) w := by
  simp only [rfBin, Sem.run_bind, eqGuard_rf, Result.andThen_ok]
  rw [run_neq_struct, run_equal_rf]; rfl
/-- The thing that is a forest's list number q. -/
def thQ (B n : Nat) (K : Nat → Bool) (P : Nat → Nat) (L : Nat → List Nat) (v : Value) (q : Nat) : Th := if q = 0 then thG 4 B v (bF K n) else if q = 1 then thG 33 B v (uF P n) else thG 3 B v (iF (L q))
theorem thQ_P {B n : Nat} {K : Nat → Bool} {P : Nat → Nat} {L : Nat → List Nat} {v : Value} {q : Nat} {W : World} {F R : List Nat} (h : (thQ B n K P L v q).P W F R) : F = v.ownBlock.toList ∧ R = F ∧ ∀ k ∈ F, B ≤ k ∧ k < W.heap.size := by
  unfold thQ at h
  split at h
  · exact ⟨h.2.1, h.2.2, fun k hk => h.1.lt k (by rw [h.2.1] at hk; simpa using hk)⟩
  · split at h
    · exact ⟨h.2.1, h.2.2, fun k hk => h.1.lt k (by rw [h.2.1] at hk; simpa using hk)⟩
    · exact ⟨h.2.1, h.2.2, fun k hk => h.1.lt k (by rw [h.2.1] at hk; simpa using hk)⟩
theorem T21_Q {B n : Nat} {K : Nat → Bool} {P : Nat → Nat} {L : Nat → List Nat} {V : Nat → Value} {ro : Option (Nat × Array Value)} {q : Nat} (hq : q < 6) : T21 B n ro V K P L q = some (thQ B n K P L (V q) q) := by
  unfold T21 thQ
  by_cases h0 : q = 0
  · subst h0; rfl
  · rw [if_neg h0, if_neg h0]
    by_cases h1 : q = 1
    · subst h1; rfl
    · rw [if_neg h1, if_neg h1, if_pos hq]
def src21 (m : Nat) : Bool × Nat := if m < 4 then (true, m + 2) else if m < 8 then (false, m - 2) else if m = 8 then (true, 1) else if m = 9 then (false, 1) else if m = 10 then (true, 0) else (false, 0)
theorem src21_lt : ∀ m, m < 12 → (src21 m).2 < 6 := by decide
theorem src21_inj : ∀ j, j < 12 → ∀ k, k < 12 → src21 j = src21 k → j = k := by decide
def val21 (V U : Nat → Value) (m : Nat) : Value := bif (src21 m).1 then V (src21 m).2 else U (src21 m).2
/-- The lists of two answers, one behind the other, are one game. -/
theorem join21 {n B : Nat} {W1 W2 : World} {V U : Nat → Value} {K : Nat → Bool} {P : Nat → Nat} {L : Nat → List Nat} (h1 : Ga W1 B (T21 B n none V K P L)) (h2 : Ga W2 W1.heap.size (T21 W1.heap.size n none U K P L)) (hb : Below W1.heap.size W1 W2) :
    ∃ T0, Ga W2 B T0 ∧ (∀ m, m < 8 → T0 m = some (thG 3 B (lv8 V U m) (iF (if m < 4 then L (m + 2) else L (m - 2))))) ∧ T0 8 = some (thG 33 B (V 1) (uF P n)) ∧ T0 9 = some (thG 33 B (U 1) (uF P n)) ∧ T0 10 = some (thG 4 B (V 0) (bF K n)) ∧ T0 11 = some (thG 4 B (U 0) (bF K n)) ∧ (∀ k t, T0 k = some t → ∀ (W : World) F R, t.P W F R → R = F) := by
  have g1 := h1.later hb
  have g2 := ga_down h2 h1.size
  have hs1 := h1.size
  obtain ⟨-, FV, RV, v1, v2⟩ := h1
  obtain ⟨-, FU, RU, u1, u2⟩ := h2
  obtain ⟨-, F1, R1, a1, a2⟩ := g1
  obtain ⟨s0, F3, R3, c1, c2⟩ := g2
  have eV : ∀ q, q < 6 → F1 q = (V q).ownBlock.toList ∧ R1 q = (V q).ownBlock.toList := fun q hq => by
    obtain ⟨x1, x2, -⟩ := thQ_P (a1 q _ (T21_Q hq)).1
    exact ⟨x1, by rw [x2, x1]⟩
  have eU : ∀ q, q < 6 → F3 q = (U q).ownBlock.toList ∧ R3 q = (U q).ownBlock.toList := fun q hq => by
    obtain ⟨x1, x2, -⟩ := thQ_P (c1 q _ (T21_Q hq)).1
    exact ⟨x1, by rw [x2, x1]⟩
  have lV : ∀ q, q < 6 → ∀ k ∈ (V q).ownBlock.toList, B ≤ k ∧ k < W1.heap.size := fun q hq k hk => by
    obtain ⟨x1, -, x3⟩ := thQ_P (v1 q _ (T21_Q hq)).1
    exact x3 k (by rw [x1]; exact hk)
  have lU : ∀ q, q < 6 → ∀ k ∈ (U q).ownBlock.toList, W1.heap.size ≤ k := fun q hq k hk => by
    obtain ⟨x1, -, x3⟩ := thQ_P (u1 q _ (T21_Q hq)).1
    exact (x3 k (by rw [x1]; exact hk)).1
  have hP : ∀ m, m < 12 → (thQ B n K P L (val21 V U m) (src21 m).2).P W2 (val21 V U m).ownBlock.toList (val21 V U m).ownBlock.toList := fun m hm => by
    have hq := src21_lt m hm
    unfold val21
    cases (src21 m).1
    · have := (c1 _ _ (T21_Q hq)).1
      rw [(eU _ hq).1, (eU _ hq).2] at this
      exact this
    · have := (a1 _ _ (T21_Q hq)).1
      rw [(eV _ hq).1, (eV _ hq).2] at this
      exact this
  refine ⟨fun m => if m < 12 then some (thQ B n K P L (val21 V U m) (src21 m).2) else none, ⟨s0, fun m => (val21 V U m).ownBlock.toList, fun m => (val21 V U m).ownBlock.toList, fun m t hm => ?_, fun j k tj tk hj hk hne x hx hx' => ?_⟩, fun m hm => ?_, rfl, rfl, rfl, rfl, fun m t hm W F R hP' => ?_⟩
  · by_cases h12 : m < 12
    · simp only [if_pos h12, Option.some.injEq] at hm
      subst hm
      refine ⟨hP m h12, fun q hq => ?_⟩
      have hq6 := src21_lt m h12
      change q ∈ (val21 V U m).ownBlock.toList at hq
      unfold val21 at hq
      cases hb9 : (src21 m).1
      · rw [hb9] at hq
        exact Nat.le_trans hs1 (lU _ hq6 q hq)
      · rw [hb9] at hq
        exact (lV _ hq6 q hq).1
    · simp only [if_neg h12] at hm; cases hm
  · by_cases hj12 : j < 12
    · by_cases hk12 : k < 12
      · have hj6 := src21_lt j hj12
        have hk6 := src21_lt k hk12
        have hinj := src21_inj j hj12 k hk12
        change x ∈ (val21 V U j).ownBlock.toList at hx
        change x ∈ (val21 V U k).ownBlock.toList at hx'
        unfold val21 at hx hx'
        cases hbj : (src21 j).1 <;> cases hbk : (src21 k).1 <;> rw [hbj] at hx <;> rw [hbk] at hx'
        · have hne2 : (src21 j).2 ≠ (src21 k).2 := fun e => hne (hinj (Prod.ext (by rw [hbj, hbk]) e))
          exact c2 _ _ _ _ (T21_Q hj6) (T21_Q hk6) hne2 x (by rw [(eU _ hj6).1]; exact hx) (by rw [(eU _ hk6).2]; exact hx')
        · have y1 := lU _ hj6 x hx
          have y2 := (lV _ hk6 x hx').2
          omega
        · have y1 := lU _ hk6 x hx'
          have y2 := (lV _ hj6 x hx).2
          omega
        · have hne2 : (src21 j).2 ≠ (src21 k).2 := fun e => hne (hinj (Prod.ext (by rw [hbj, hbk]) e))
          exact a2 _ _ _ _ (T21_Q hj6) (T21_Q hk6) hne2 x (by rw [(eV _ hj6).1]; exact hx) (by rw [(eV _ hk6).2]; exact hx')
      · simp only [if_neg hk12] at hk; cases hk
    · simp only [if_neg hj12] at hj; cases hj
  · rcases m with _ | _ | _ | _ | _ | _ | _ | _ | m
    all_goals first | rfl | omega
  · by_cases h12 : m < 12
    · simp only [if_pos h12, Option.some.injEq] at hm
      subst hm
      exact (thQ_P hP').2.1
    · simp only [if_neg h12] at hm; cases hm
/-- A block ahead of them turns. -/
theorem Ga.ahead {W W' : World} {B g : Nat} {T : Nat → Option Th} (h : Ga W B T) (hT : ∀ k t, T k = some t → ∀ (W : World) F R, t.P W F R → R = F) (hg : g < B) (hK : Keep [g] W W') : Ga W' B T := by
  obtain ⟨h0, F, R, h1, h2⟩ := h
  refine ⟨Nat.le_trans h0 hK.size, F, R, fun k t ht => ⟨t.keeps (h1 k t ht).1 hK (fun q hq hm => ?_), (h1 k t ht).2⟩, h2⟩
  rw [hT k t ht _ _ _ (h1 k t ht).1] at hq
  have := (h1 k t ht).2 q hq
  rw [List.mem_singleton] at hm
  omega
end Go.Proofs.Ytligjfofnafjeaa
