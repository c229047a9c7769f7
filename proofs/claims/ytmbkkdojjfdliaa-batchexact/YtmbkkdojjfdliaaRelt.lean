
import Derived.Test.YtmbkkdojjfdliaaRely
namespace Go.Proofs.Ytmbkkdojjfdliaa
open Go.RowKit

/-! The rule for a region that draws its order, with a tail that is walked in the order of the text: each of the tail waits for all ahead of it. -/
/-- One operation's duty. -/
def DutyT (l : List Oper) (φ : List (Value → World → Prop)) (W : World) (a0 : Act) (Q : Exit → Act → World → Prop) (o : Oper) (f : Value → World → Prop) : Prop :=
  ∀ a w, Below W.heap.size W w → (∀ t, outB (l.take φ.length) t = true → a.eval (.tmp t) = a0.eval (.tmp t)) → depsOf l φ a w o.after.toList →
    (Region.wanted o (yielded l.toArray a.tmps) = true → o.wp Try.prog a w (fun a' w' => ∃ v, a' = a.put o.dst v ∧ f v w' ∧ Below w.heap.size w w') Q) ∧
    (Region.wanted o (yielded l.toArray a.tmps) = false → f undef w)
def DutiesT (l : List Oper) (φ : List (Value → World → Prop)) (W : World) (a0 : Act) (Q : Exit → Act → World → Prop) : List Oper → List (Value → World → Prop) → Prop
  | o :: r, f :: g => DutyT l φ W a0 Q o f ∧ DutiesT l φ W a0 Q r g
  | _, _ => True
theorem duties_getT {l : List Oper} {φ : List (Value → World → Prop)} {W : World} {a0 : Act} {Q : Exit → Act → World → Prop} : ∀ {r : List Oper} {g : List (Value → World → Prop)}, DutiesT l φ W a0 Q r g →
    ∀ (i : Nat) o f, r[i]? = some o → g[i]? = some f → DutyT l φ W a0 Q o f
  | [], _, _, _, _, _, h, _ => by simp at h
  | _ :: _, [], _, _, _, _, _, h => by simp at h
  | o :: r, f :: g, h, 0, o', f', h1, h2 => by simp at h1 h2; subst h1; subst h2; exact h.1
  | o :: r, f :: g, h, i + 1, o', f', h1, h2 => duties_getT h.2 i o' f' (by simpa using h1) (by simpa using h2)
/-- An operation's duty. -/
def DutyRT (l : List Oper) (φ : List (Value → World → Prop)) (W : World) (a0 : Act) (o : Oper) (f : Value → World → Prop) : Prop :=
  ∀ (ρ : Operand → Value) (x : World), Below W.heap.size W x → (∀ v, ρ (.const v) = v) → (∀ g, ρ (.global g) = .pointer (some ⟨g, 0, none⟩)) → (∀ k, ρ (.func k) = .func (.func k) #[] #[]) →
    (∀ t, outB (l.take φ.length) t = true → ρ (.tmp t) = a0.eval (.tmp t)) → depsR l φ ρ x o.after.toList → guardR l ρ o (okUpon f x ((execOp ρ o).run Try.prog x)) (f undef x)
def DutiesRT (l : List Oper) (φ : List (Value → World → Prop)) (W : World) (a0 : Act) : List Oper → List (Value → World → Prop) → Prop
  | o :: r, f :: g => DutyRT l φ W a0 o f ∧ DutiesRT l φ W a0 r g
  | _, _ => True
theorem duty_ofT {l : List Oper} {φ : List (Value → World → Prop)} {W : World} {a0 : Act} {o : Oper} {f : Value → World → Prop} {Q : Exit → Act → World → Prop} (h : DutyRT l φ W a0 o f) : DutyT l φ W a0 Q o f := by
  intro a w hb ho hd
  have hx := h a.eval w hb (fun _ => rfl) (fun _ => rfl) (fun _ => rfl) ho (depsR_of _ hd)
  have run : okUpon f w ((execOp a.eval o).run Try.prog w) → o.wp Try.prog a w (fun a' w' => ∃ v, a' = a.put o.dst v ∧ f v w' ∧ Below w.heap.size w w') Q := by
    intro hk
    unfold Oper.wp
    generalize (execOp a.eval o).run Try.prog w = r at hk
    cases r with
    | ok n x' =>
      cases n <;> simp only [okUpon] at hk
      case value v => exact ⟨v, rfl, hk.1, hk.2⟩
      case enter fn args =>
        obtain ⟨rfl, hc⟩ := hk
        exact hc.mono fun e w' ⟨v, he, hf, hb⟩ => by subst he; exact ⟨v, rfl, hf, hb⟩
    | halt e x' => simp only [okUpon] at hk
  unfold guardR at hx
  unfold Region.wanted
  cases hg : o.guard with
  | none => simp only [hg] at hx ⊢; exact ⟨fun _ => run hx, fun h => by cases h⟩
  | some q =>
    obtain ⟨j, b⟩ := q
    simp only [hg] at hx ⊢
    rw [yieldR_eq]
    exact ⟨fun h => run (hx.1 (by simpa using h)), fun h => hx.2 (by simpa using h)⟩
theorem duties_ofT {l : List Oper} {φ : List (Value → World → Prop)} {W : World} {a0 : Act} {Q : Exit → Act → World → Prop} : ∀ (r : List Oper) (g : List (Value → World → Prop)), DutiesRT l φ W a0 r g → DutiesT l φ W a0 Q r g
  | [], _, _ => by unfold DutiesT; trivial
  | _ :: _, [], _ => by unfold DutiesT; trivial
  | _ :: r, _ :: g, h => ⟨duty_ofT h.1, duties_ofT r g h.2⟩
def edgeB (l : List Oper) (k j : Nat) : Bool := match l[k]? with | some o => o.after.toList.any fun e => e.on == j && Region.binds .any e | none => false
def tailB (l : List Oper) (m : Nat) : Bool :=
  (List.range l.length).all (fun i => (List.range l.length).all fun j => i == j || (match l[i]?, l[j]? with | some a, some b => a.dst.isNone || !(a.dst == b.dst) | _, _ => true)) &&
  (List.range l.length).all (fun i => match l[i]? with | some o => o.after.all fun e => decide (e.on < i) | none => true) &&
  decide (m < l.length) &&
  (List.range m).all (fun j => (List.range (m + 1)).any fun k => decide (j < k) && edgeB l k j) &&
  (List.range l.length).all (fun i => decide (i ≤ m) || edgeB l i (i - 1))
theorem edgeB_spec {l : List Oper} {k j : Nat} (h : edgeB l k j = true) : ∃ o, l[k]? = some o ∧ ∃ e ∈ o.after, e.on = j ∧ Region.binds .any e = true := by
  unfold edgeB at h
  split at h
  · rename_i o ho
    simp only [List.any_eq_true, Bool.and_eq_true, beq_iff_eq] at h
    obtain ⟨e, he, h6, h7⟩ := h
    exact ⟨o, ho, e, by simpa using he, h6, h7⟩
  · cases h
theorem tailB_spec {l : List Oper} {m : Nat} (h : tailB l m = true) :
    (∀ (i j : Nat) a b, l[i]? = some a → l[j]? = some b → i ≠ j → a.dst.isNone = true ∨ a.dst ≠ b.dst) ∧ (∀ (i : Nat) o, l[i]? = some o → ∀ e ∈ o.after, e.on < i) ∧ m < l.length ∧
    (∀ j, j < m → ∃ k, j < k ∧ k ≤ m ∧ edgeB l k j = true) ∧ (∀ i, m < i → i < l.length → edgeB l i (i - 1) = true) := by
  simp only [tailB, Bool.and_eq_true, List.all_eq_true, List.mem_range, decide_eq_true_eq] at h
  obtain ⟨⟨⟨⟨h1, h2⟩, h3⟩, h4⟩, h5⟩ := h
  refine ⟨fun i j a b hi hj hne => ?_, fun i o hi e he => ?_, h3, fun j hj => ?_, fun i h h' => ?_⟩
  · have := h1 i (List.getElem?_eq_some_iff.1 hi).1 j (List.getElem?_eq_some_iff.1 hj).1
    simp only [hi, hj, Bool.or_eq_true, beq_iff_eq, Bool.not_eq_true', beq_eq_false_iff_ne] at this
    rcases this with h | h | h
    · exact absurd h hne
    · exact .inl h
    · exact .inr h
  · have := h2 i (List.getElem?_eq_some_iff.1 hi).1
    simp only [hi, Array.all_eq_true_iff_forall_mem, decide_eq_true_eq] at this
    exact this e he
  · have := h4 j hj
    simp only [List.any_eq_true, List.mem_range, Bool.and_eq_true, decide_eq_true_eq] at this
    obtain ⟨k, h6, h7, h8⟩ := this
    exact ⟨k, h7, by omega, h8⟩
  · have := h5 i h'
    simp only [Bool.or_eq_true, decide_eq_true_eq] at this
    rcases this with h9 | h9
    · omega
    · exact h9
/-- Once the first k are done and no other one: the rest in the order of the text. -/
theorem tail_any {l : List Oper} {m : Nat} {Q : Exit → Act → World → Prop} (hlt : ∀ (i : Nat) o, l[i]? = some o → ∀ e ∈ o.after, e.on < i) (hchain : ∀ i, m < i → i < l.length → edgeB l i (i - 1) = true) :
    ∀ (fuel k : Nat) (listed : Array Bool) (a : Act) (w : World), m ≤ k → l.length - k ≤ fuel → listed.size = l.length → (∀ j, j < k → j < l.length → listed.getD j false = true) → (∀ j, k ≤ j → listed.getD j false = false) →
      wpList Try.prog l.toArray Q (l.drop k) a w → wpAny Try.prog .any l.toArray Q fuel listed a w := by
  intro fuel
  induction fuel with
  | zero =>
    intro k listed a w hm hf hsz h1 h2 hx
    have hall : ∀ i, i < l.length → listed.getD i false = true := fun i hi => h1 i (by omega) hi
    rw [List.drop_of_length_le (by omega)] at hx
    exact ⟨ready_nil hall, hx⟩
  | succ fuel ih =>
    intro k listed a w hm hf hsz h1 h2 hx
    rcases Nat.lt_or_ge k l.length with hk | hk
    · refine ⟨fun hr => ?_, fun i hi => ?_⟩
      · exfalso
        have hj : k ∈ Region.ready .any l.toArray listed := by
          rw [mem_ready]
          have hkf := h2 k (Nat.le_refl _)
          have hks : k < listed.size := by omega
          refine ⟨by simpa [hks] using hkf, l[k], by simp [hk], fun e he _ => ?_⟩
          have := hlt k _ (List.getElem?_eq_getElem hk) e he
          exact h1 _ this (by omega)
        rw [hr] at hj; cases hj
      · rw [mem_ready] at hi
        obtain ⟨hun, o, ho, hdep⟩ := hi
        have ho' : l[i]? = some o := by simpa using ho
        have hil : i < l.length := (List.getElem?_eq_some_iff.1 ho').1
        have hif : listed.getD i false = false := by
          have : i < listed.size := by omega
          simpa [this] using hun
        have hik : i = k := by
          rcases Nat.lt_or_ge i k with h | h
          · rw [h1 i h hil] at hif; cases hif
          · rcases Nat.eq_or_lt_of_le h with h | h
            · exact h.symm
            · exfalso
              obtain ⟨o2, ho2, e, he, h6, h7⟩ := edgeB_spec (hchain i (by omega) hil)
              rw [ho'] at ho2; cases ho2
              have := hdep e he h7
              rw [h6, h2 (i - 1) (by omega)] at this
              cases this
        subst hik
        have hset : ∀ j, j ≠ i → (listed.setIfInBounds i true).getD j false = listed.getD j false := fun j hj => getD_set_ne false (Ne.symm hj)
        have hseti : (listed.setIfInBounds i true).getD i false = true := by
          have : i < listed.size := by omega
          simp [this]
        rw [List.drop_eq_getElem_cons hil] at hx
        have hoi : l[i] = o := by have := ho'; rw [List.getElem?_eq_getElem hil] at this; cases this; rfl
        rw [hoi] at hx
        have hnext : ∀ a' w', wpList Try.prog l.toArray Q (l.drop (i + 1)) a' w' → wpAny Try.prog .any l.toArray Q fuel (listed.setIfInBounds i true) a' w' := fun a' w' h =>
          ih (i + 1) _ a' w' (by omega) (by omega) (by simpa using hsz) (fun j hj hjl => by
            by_cases hji : j = i
            · subst hji; exact hseti
            · rw [hset j hji]; exact h1 j (by omega) hjl) (fun j hj => by rw [hset j (by omega)]; exact h2 j (by omega)) h
        unfold wpOp
        simp only [List.getElem?_toArray, ho']
        unfold wpList at hx
        split
        · rename_i hw
          simp only [hw, if_true] at hx
          exact hx.imp (Oper.wp_mono fun a' w' h => hnext a' w' h) id
        · rename_i hw
          simp only [hw] at hx
          exact hnext _ _ hx
    · have hall : ∀ i, i < l.length → listed.getD i false = true := fun i hi => h1 i (by omega) hi
      rw [List.drop_of_length_le (by omega)] at hx
      exact wpAny_end hall hx _
theorem countGe (m n : Nat) : ((List.range n).filter fun j => decide (m ≤ j)).length = n - m := by
  induction n with
  | zero => simp
  | succ n ih =>
    rw [List.range_succ, List.filter_append, List.length_append, ih]
    by_cases h : m ≤ n
    · simp [h]; omega
    · simp [h]; omega
theorem rely_tail {l : List Oper} {φ : List (Value → World → Prop)} {W : World} {a0 : Act} {Q : Exit → Act → World → Prop} (hB : tailB l φ.length = true) (hD : dstB (l.take φ.length) a0.tmps.size = true)
    (hmono : ∀ f ∈ φ, ∀ v w w', f v w → Below w.heap.size w w' → f v w') (hstep : DutiesT l φ W a0 Q l φ)
    (hend : ∀ vs w, Below W.heap.size W w → owed vs w φ 0 → wpList Try.prog l.toArray Q (l.drop φ.length) (puts vs (l.take φ.length) 0 a0) w) :
    ∀ (fuel : Nat) (listed : Array Bool) (a : Act) (w : World), ((List.range l.length).filter fun j => !listed.getD j false).length ≤ fuel → listed.size = l.length →
      (∀ j, φ.length ≤ j → listed.getD j false = false) → (∀ (i : Nat) o, l[i]? = some o → listed.getD i false = true → ∀ e ∈ o.after, Region.binds .any e = true → listed.getD e.on false = true) → RI l φ W a0 listed a w → wpAny Try.prog .any l.toArray Q fuel listed a w := by
  obtain ⟨hne, hlt, hm1, htail, hchain⟩ := tailB_spec hB
  have fin : ∀ (listed : Array Bool) (a : Act) (w : World), (∀ i, i < φ.length → listed.getD i false = true) → RI l φ W a0 listed a w → wpList Try.prog l.toArray Q (l.drop φ.length) a w := by
    intro listed a w hall hI
    obtain ⟨hb, hd, hs, hout, hf⟩ := hI
    have hv : ∀ (i : Nat) o f, l[i]? = some o → φ[i]? = some f → f (slot a o) w := fun i o f h1 h2 => hf i o f h1 h2 (hall i (List.getElem?_eq_some_iff.1 h2).1)
    have e := puts_eq (fun i => match l[i]? with | some o => slot a o | none => undef) a (l.take φ.length) 0 a0 hd hs hout (fun i o d h1 h2 => by
      have h1' : l[i]? = some o := by rw [List.getElem?_take] at h1; split at h1; exact h1; cases h1
      simp [h1', slot, h2])
    rw [e]
    refine hend _ w hb (owed_of φ 0 fun i f hi => ?_)
    have hi' : i < l.length := by have := (List.getElem?_eq_some_iff.1 hi).1; omega
    simp only [Nat.zero_add, List.getElem?_eq_getElem hi']
    exact hv i _ f (List.getElem?_eq_getElem hi') hi
  intro fuel
  induction fuel with
  | zero =>
    intro listed a w hc hsz ht hdn hI
    exfalso
    have : φ.length ∈ (List.range l.length).filter fun j => !listed.getD j false := by
      rw [List.mem_filter, ht _ (Nat.le_refl _)]; simp [hm1]
    have := List.length_pos_of_mem this
    omega
  | succ fuel ih =>
    intro listed a w hc hsz ht hdn hI
    refine ⟨fun hr => absurd ((ht _ (Nat.le_refl _)).symm.trans (allListed hlt hsz hr _ hm1)) (by decide), fun i hi => ?_⟩
    rw [mem_ready] at hi
    obtain ⟨hun, o, ho, hdep⟩ := hi
    have ho' : l[i]? = some o := by simpa using ho
    have hil : i < l.length := (List.getElem?_eq_some_iff.1 ho').1
    have hif : listed.getD i false = false := by
      have : i < listed.size := by omega
      simpa [this] using hun
    have hset : ∀ j, j ≠ i → (listed.setIfInBounds i true).getD j false = listed.getD j false := fun j hj => getD_set_ne false (Ne.symm hj)
    have hseti : (listed.setIfInBounds i true).getD i false = true := by
      have : i < listed.size := by omega
      simp [this]
    rcases Nat.lt_or_ge i φ.length with him | him
    · -- a duty
      have hfi : φ[i]? = some φ[i] := List.getElem?_eq_getElem him
      have hcnt : ((List.range l.length).filter fun j => !(listed.setIfInBounds i true).getD j false).length ≤ fuel := by
        have := filter_lt (fun j => !listed.getD j false) (fun j => !(listed.setIfInBounds i true).getD j false) i (by simp only [hif]; rfl) (by simp only [hseti]; rfl) (fun j hj => by
          by_cases hji : j = i
          · subst hji; simp only [hif]; rfl
          · simp only [hset j hji] at hj; exact hj) (List.range l.length) (by simpa using hil)
        omega
      have htl : ∀ j, φ.length ≤ j → (listed.setIfInBounds i true).getD j false = false := fun j h => by rw [hset _ (by omega)]; exact ht j h
      have hdn' : ∀ (j : Nat) oj, l[j]? = some oj → (listed.setIfInBounds i true).getD j false = true → ∀ e ∈ oj.after, Region.binds .any e = true → (listed.setIfInBounds i true).getD e.on false = true := fun j oj hj hl e he hbd => by
        by_cases hei : e.on = i
        · rw [hei]; exact hseti
        · rw [hset _ hei]
          by_cases hji : j = i
          · subst hji; rw [ho'] at hj; cases hj; exact hdep e he hbd
          · rw [hset j hji] at hl; exact hdn j oj hj hl e he hbd
      obtain ⟨hb, hd, hs, hout, hf⟩ := hI
      have hdeps : depsOf l φ a w o.after.toList := depsOf_of _ fun e he hbd => by
        unfold dep1
        split
        · rename_i oj f h1 h2
          exact hf e.on oj f h1 h2 (hdep e (by simpa using he) hbd)
        · trivial
      obtain ⟨hw1, hw2⟩ := duties_getT hstep i o φ[i] ho' hfi a w hb (fun t h => hout t h) hdeps
      have hnew : ∀ v w', φ[i] v w' → Below w.heap.size w w' → RI l φ W a0 (listed.setIfInBounds i true) (a.put o.dst v) w' := fun v w' hφ hg => by
        refine ⟨hb.trans (hg.mono hb.size), by rw [defers_put]; exact hd, by rw [size_put]; exact hs, fun t h => ?_, fun j oj f h1 h2 h3 => ?_⟩
        · rw [Act.eval_put (x := .tmp t) (fun d hd' he => by
            cases he
            simp only [outB, List.all_eq_true] at h
            have hmem : o ∈ l.take φ.length := by
              rw [List.mem_iff_getElem?]; exact ⟨i, by rw [List.getElem?_take, if_pos him]; exact ho'⟩
            have := h o hmem
            simp [hd'] at this)]
          exact hout t h
        · by_cases hji : j = i
          · subst hji
            rw [ho'] at h1; cases h1
            rw [hfi] at h2; cases h2
            have hmem : o ∈ l.take φ.length := by
              rw [List.mem_iff_getElem?]; exact ⟨j, by rw [List.getElem?_take, if_pos him]; exact ho'⟩
            simp only [dstB, List.all_eq_true] at hD
            have hd1 := hD o hmem
            unfold slot
            cases hdo : o.dst with
            | none => simp [hdo] at hd1
            | some d =>
              have hd2 : d < a0.tmps.size := by simpa [hdo] using hd1
              have e : (a.put (some d) v).eval (.tmp d) = v := by
                have : d < a.tmps.size := by rw [hs]; exact hd2
                simp [eval_tmp, Act.put, this]
              simp only [e]
              exact hφ
          · rw [slot_put_ne v (hne j i oj o h1 ho' hji)]
            exact hmono f (List.mem_of_getElem? h2) _ _ _ (hf j oj f h1 h2 (by rw [← hset j hji]; exact h3)) hg
      unfold wpOp
      simp only [List.getElem?_toArray, ho']
      split
      · rename_i hw
        refine .inl (Oper.wp_mono (fun a' w' h => ?_) (hw1 hw))
        obtain ⟨v, rfl, hφ, hg⟩ := h
        exact ih _ _ _ hcnt (by simpa using hsz) htl hdn' (hnew v w' hφ hg)
      · rename_i hw
        exact ih _ _ _ hcnt (by simpa using hsz) htl hdn' (hnew undef w (hw2 (by simpa using hw)) (Below.refl _ _))
    · -- the tail
      have hil' : i = φ.length := by
        rcases Nat.eq_or_lt_of_le him with h | h
        · exact h.symm
        · exfalso
          obtain ⟨o2, ho2, e, he, h6, h7⟩ := edgeB_spec (hchain i (by omega) hil)
          rw [ho'] at ho2; cases ho2
          have := hdep e he h7
          rw [h6, ht (i - 1) (by omega)] at this
          cases this
      have hallN : ∀ n j, φ.length - j = n → j < φ.length → listed.getD j false = true := by
        intro n
        induction n using Nat.strongRecOn with
        | _ n ih2 =>
          intro j hn hj
          obtain ⟨k, hk1, hk2, hke⟩ := htail j hj
          obtain ⟨o2, ho2, e, he, h6, h7⟩ := edgeB_spec hke
          rcases Nat.eq_or_lt_of_le hk2 with h | h
          · rw [h, ← hil', ho'] at ho2; cases ho2
            rw [← h6]; exact hdep e he h7
          · rw [← h6]; exact hdn k o2 ho2 (ih2 (φ.length - k) (by omega) k rfl h) e he h7
      have hall : ∀ j, j < φ.length → listed.getD j false = true := fun j hj => hallN _ j rfl hj
      have hx := fin listed a w hall hI
      have hcl : l.length - φ.length ≤ fuel + 1 := by
        have h9 : ((List.range l.length).filter fun j => decide (φ.length ≤ j)).length ≤ ((List.range l.length).filter fun j => !listed.getD j false).length := by
          rw [← List.countP_eq_length_filter, ← List.countP_eq_length_filter]
          refine List.countP_mono_left fun j _ h => ?_
          rw [decide_eq_true_eq] at h
          rw [ht j h]; rfl
        have h10 : ((List.range l.length).filter fun j => decide (φ.length ≤ j)).length = l.length - φ.length := countGe _ _
        omega
      have hz := tail_any (Q := Q) hlt hchain (fuel + 1) φ.length listed a w (Nat.le_refl _) hcl hsz (fun j hj _ => hall j hj) ht hx
      exact hz.2 i (by rw [mem_ready]; exact ⟨hun, o, ho, hdep⟩)
theorem wp_reliesT {l : List Oper} {id : Nat} {W : World} {a0 : Act} {Q : Exit → Act → World → Prop} (φ : List (Value → World → Prop)) (hB : tailB l φ.length = true) (hD : dstB (l.take φ.length) a0.tmps.size = true)
    (hmono : ∀ f ∈ φ, ∀ v w w', f v w → Below w.heap.size w w' → f v w') (hstep : DutiesRT l φ W a0 l φ)
    (hend : ∀ vs w, Below W.heap.size W w → owed vs w φ 0 → wpList Try.prog l.toArray Q (asg vs (l.take φ.length) 0 ++ l.drop φ.length) a0 w) : (Code.region id l.toArray true).wp Try.prog Q a0 W := by
  refine wp_region_any (by kernel_rfl) (rely_tail hB hD hmono (duties_ofT l φ hstep) (fun vs w h1 h2 => wpList_asg vs _ _ _ (hend vs w h1 h2)) _ _ _ _ ?_ (by simp) (fun j _ => by rw [Array.getD_eq_getD_getElem?, Array.getElem?_replicate]; split <;> rfl) (fun i o _ h => by
    exfalso
    rw [Array.getD_eq_getD_getElem?, Array.getElem?_replicate] at h
    split at h <;> simp at h) ⟨(Below.refl _ _).drew, rfl, rfl, fun _ _ => rfl, fun i o f _ _ h => by
    exfalso
    rw [Array.getD_eq_getD_getElem?, Array.getElem?_replicate] at h
    split at h <;> simp at h⟩)
  have := List.length_filter_le (fun j => !(Array.replicate l.toArray.size false).getD j false) (List.range l.length)
  simpa using this
theorem plain_listT {l : List Oper} {φ : List (Value → World → Prop)} {W : World} {a0 : Act} {Q : Exit → Act → World → Prop} (hB : plainB l φ.length = true) (hD : dstB (l.take φ.length) a0.tmps.size = true)
    (hmono : ∀ f ∈ φ, ∀ v w w', f v w → Below w.heap.size w w' → f v w') (hstep : DutiesT l φ W a0 Q l φ)
    (hend : ∀ vs w, Below W.heap.size W w → owed vs w φ 0 → wpList Try.prog l.toArray Q (l.drop φ.length) (puts vs (l.take φ.length) 0 a0) w) :
    ∀ (n k : Nat) (a : Act) (w : World), k + n = φ.length → Below W.heap.size W w → a.defers = a0.defers → a.tmps.size = a0.tmps.size → (∀ t, outB (l.take φ.length) t = true → a.eval (.tmp t) = a0.eval (.tmp t)) →
      (∀ (i : Nat) o f, i < k → l[i]? = some o → φ[i]? = some f → f (slot a o) w) → wpList Try.prog l.toArray Q (l.drop k) a w := by
  obtain ⟨hne, hlt, hm⟩ := plainB_spec hB
  intro n
  induction n with
  | zero =>
    intro k a w hk hb hd hs hout hf
    obtain rfl : k = φ.length := by omega
    have e := puts_eq (fun i => match l[i]? with | some o => slot a o | none => undef) a (l.take φ.length) 0 a0 hd hs hout (fun i o d h1 h2 => by
      have h1' : l[i]? = some o := by rw [List.getElem?_take] at h1; split at h1; exact h1; cases h1
      simp [h1', slot, h2])
    rw [e]
    refine hend _ w hb (owed_of φ 0 fun i f hi => ?_)
    have hi1 := (List.getElem?_eq_some_iff.1 hi).1
    have hi' : i < l.length := by omega
    simp only [Nat.zero_add, List.getElem?_eq_getElem hi']
    exact hf i _ f hi1 (List.getElem?_eq_getElem hi') hi
  | succ n ih =>
    intro k a w hk hb hd hs hout hf
    have hkl : k < l.length := by omega
    have hkm : k < φ.length := by omega
    have ho' : l[k]? = some l[k] := List.getElem?_eq_getElem hkl
    have hfi : φ[k]? = some φ[k] := List.getElem?_eq_getElem hkm
    have hmem : l[k] ∈ l.take φ.length := by
      rw [List.mem_iff_getElem?]; exact ⟨k, by rw [List.getElem?_take, if_pos hkm]; exact ho'⟩
    have hdeps : depsOf l φ a w l[k].after.toList := depsOf_of _ fun e he hbd => by
      unfold dep1
      split
      · rename_i oj f h1 h2
        exact hf e.on oj f (hlt k _ hkm ho' e (by simpa using he)) h1 h2
      · trivial
    obtain ⟨hw1, hw2⟩ := duties_getT hstep k l[k] φ[k] ho' hfi a w hb (fun t h => hout t h) hdeps
    have hnew : ∀ v w', φ[k] v w' → Below w.heap.size w w' → wpList Try.prog l.toArray Q (l.drop (k + 1)) (a.put l[k].dst v) w' := fun v w' hφ hg => by
      refine ih (k + 1) _ w' (by omega) (hb.trans (hg.mono hb.size)) (by rw [defers_put]; exact hd) (by rw [size_put]; exact hs) (fun t h => ?_) (fun j oj f hj h1 h2 => ?_)
      · rw [Act.eval_put (x := .tmp t) (fun d hd' he => by
          cases he
          simp only [outB, List.all_eq_true] at h
          have := h _ hmem
          simp [hd'] at this)]
        exact hout t h
      · by_cases hji : j = k
        · subst hji
          rw [ho'] at h1; cases h1
          rw [hfi] at h2; cases h2
          simp only [dstB, List.all_eq_true] at hD
          have hd1 := hD _ hmem
          unfold slot
          cases hdo : l[j].dst with
          | none => simp [hdo] at hd1
          | some d =>
            have hd2 : d < a0.tmps.size := by simpa [hdo] using hd1
            have e : (a.put (some d) v).eval (.tmp d) = v := by
              have : d < a.tmps.size := by rw [hs]; exact hd2
              simp [eval_tmp, Act.put, this]
            simp only [e]
            exact hφ
        · rw [slot_put_ne v (hne j k oj l[k] (by omega) hkm h1 ho' hji)]
          exact hmono f (List.mem_of_getElem? h2) _ _ _ (hf j oj f (by omega) h1 h2) hg
    rw [List.drop_eq_getElem_cons hkl]
    unfold wpList
    split
    · rename_i hw
      refine .inl (Oper.wp_mono (fun a' w' h => ?_) (hw1 hw))
      obtain ⟨v, rfl, hφ, hg⟩ := h
      exact hnew v w' hφ hg
    · rename_i hw
      exact hnew undef w (hw2 (by simpa using hw)) (Below.refl _ _)
theorem wp_plainsT {l : List Oper} {id : Nat} {W : World} {a0 : Act} {Q : Exit → Act → World → Prop} (φ : List (Value → World → Prop)) (hB : plainB l φ.length = true) (hD : dstB (l.take φ.length) a0.tmps.size = true)
    (hmono : ∀ f ∈ φ, ∀ v w w', f v w → Below w.heap.size w w' → f v w') (hstep : DutiesRT l φ W a0 l φ)
    (hend : ∀ vs w, Below W.heap.size W w → owed vs w φ 0 → wpList Try.prog l.toArray Q (asg vs (l.take φ.length) 0 ++ l.drop φ.length) a0 w) : (Code.region id l.toArray false).wp Try.prog Q a0 W :=
  wp_region_lit (plain_listT hB hD hmono (duties_ofT l φ hstep) (fun vs w h1 h2 => wpList_asg vs _ _ _ (hend vs w h1 h2)) φ.length 0 a0 W (by omega) (Below.refl _ _) rfl rfl (fun _ _ => rfl) (fun i o f h _ _ => by omega))

end Go.Proofs.Ytmbkkdojjfdliaa
