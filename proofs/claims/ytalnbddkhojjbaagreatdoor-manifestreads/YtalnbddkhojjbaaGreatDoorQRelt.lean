import Derived.Test.YtalnbddkhojjbaaGreatDoorQNum
namespace Go.Proofs.YtalnbddkhojjbaaGreatDoor
open Go.RowKit

def DutyT (l : List Oper) (φ : List (Value → World → Prop)) (W : World) (a0 : Act) (Q : Exit → Act → World → Prop) (o : Oper) (f : Value → World → Prop) : Prop :=
  ∀ a w, Below W.heap.size W w → (∀ t, outB (l.take φ.length) t = true → a.eval (.tmp t) = a0.eval (.tmp t)) → depsOf l φ a w o.after.toList →
    (Region.wanted o (yielded l.toArray a.tmps) = true → o.wp Tryz.prog a w (fun a' w' => ∃ v, a' = a.put o.dst v ∧ f v w' ∧ Below w.heap.size w w') Q) ∧
    (Region.wanted o (yielded l.toArray a.tmps) = false → f undef w)
def DutiesT (l : List Oper) (φ : List (Value → World → Prop)) (W : World) (a0 : Act) (Q : Exit → Act → World → Prop) : List Oper → List (Value → World → Prop) → Prop
  | o :: r, f :: g => DutyT l φ W a0 Q o f ∧ DutiesT l φ W a0 Q r g
  | _, _ => True
theorem duties_getT {l : List Oper} {φ : List (Value → World → Prop)} {W : World} {a0 : Act} {Q : Exit → Act → World → Prop} : ∀ {r : List Oper} {g : List (Value → World → Prop)}, DutiesT l φ W a0 Q r g →
    ∀ (i : Nat) o f, r[i]? = some o → g[i]? = some f → DutyT l φ W a0 Q o f
  | [], _, _, _, _, _, h, _ => by simp at h
  | _ :: _, [], _, _, _, _, _, h => by simp at h
  | o :: r, f :: g, h, 0, o', f', h1, h2 => by simp at h1 h2; subst h1; subst h2; exact h.1
  | o :: r, f :: g, h, i + 1, o', f', h1, h2 => duties_getT h.2 i o' f' (by simpa using h1) (by simpa using h2)
def DutyRT (l : List Oper) (φ : List (Value → World → Prop)) (W : World) (a0 : Act) (o : Oper) (f : Value → World → Prop) : Prop :=
  ∀ (ρ : Operand → Value) (x : World), Below W.heap.size W x → (∀ v, ρ (.const v) = v) → (∀ g, ρ (.global g) = .pointer (some ⟨g, 0, none⟩)) → (∀ k, ρ (.func k) = .func (.func k) #[] #[]) →
    (∀ t, outB (l.take φ.length) t = true → ρ (.tmp t) = a0.eval (.tmp t)) → depsR l φ ρ x o.after.toList → guardR l ρ o (okUpon f x ((execOp ρ o).run Tryz.prog x)) (f undef x)
def DutiesRT (l : List Oper) (φ : List (Value → World → Prop)) (W : World) (a0 : Act) : List Oper → List (Value → World → Prop) → Prop
  | o :: r, f :: g => DutyRT l φ W a0 o f ∧ DutiesRT l φ W a0 r g
  | _, _ => True
theorem duty_ofT {l : List Oper} {φ : List (Value → World → Prop)} {W : World} {a0 : Act} {o : Oper} {f : Value → World → Prop} {Q : Exit → Act → World → Prop} (h : DutyRT l φ W a0 o f) : DutyT l φ W a0 Q o f := by
  intro a w hb ho hd
  have hx := h a.eval w hb (fun _ => rfl) (fun _ => rfl) (fun _ => rfl) ho (depsR_of _ hd)
  have run : okUpon f w ((execOp a.eval o).run Tryz.prog w) → o.wp Tryz.prog a w (fun a' w' => ∃ v, a' = a.put o.dst v ∧ f v w' ∧ Below w.heap.size w w') Q := by
    intro hk
    unfold Oper.wp
    generalize (execOp a.eval o).run Tryz.prog w = r at hk
    cases r with
    | ok n x' =>
      cases n <;> simp only [okUpon] at hk
      case value v => exact ⟨v, rfl, hk.1, hk.2⟩
      case enter fn args =>
        obtain ⟨rfl, hc⟩ := hk
        exact hc.mono fun e w' ⟨v, he, hf, hb⟩ => by subst he; exact ⟨v, rfl, hf, hb⟩
    | halt e x' => simp only [okUpon] at hk
  unfold guardR at hx
  unfold Region.wanted
  cases hg : o.guard with
  | none => simp only [hg] at hx ⊢; exact ⟨fun _ => run hx, fun h => by cases h⟩
  | some q =>
    obtain ⟨j, b⟩ := q
    simp only [hg] at hx ⊢
    rw [yieldR_eq]
    exact ⟨fun h => run (hx.1 (by simpa using h)), fun h => hx.2 (by simpa using h)⟩
theorem duties_ofT {l : List Oper} {φ : List (Value → World → Prop)} {W : World} {a0 : Act} {Q : Exit → Act → World → Prop} : ∀ (r : List Oper) (g : List (Value → World → Prop)), DutiesRT l φ W a0 r g → DutiesT l φ W a0 Q r g
  | [], _, _ => by unfold DutiesT; trivial
  | _ :: _, [], _ => by unfold DutiesT; trivial
  | _ :: r, _ :: g, h => ⟨duty_ofT h.1, duties_ofT r g h.2⟩
def edgeB (l : List Oper) (k j : Nat) : Bool := match l[k]? with | some o => o.after.toList.any fun e => e.on == j && Region.binds .any e | none => false
def tailB (l : List Oper) (m : Nat) : Bool :=
  (List.range l.length).all (fun i => (List.range l.length).all fun j => i == j || (match l[i]?, l[j]? with | some a, some b => a.dst.isNone || !(a.dst == b.dst) | _, _ => true)) &&
  (List.range l.length).all (fun i => match l[i]? with | some o => o.after.all fun e => decide (e.on < i) | none => true) &&
  decide (m < l.length) &&
  (List.range m).all (fun j => (List.range (m + 1)).any fun k => decide (j < k) && edgeB l k j) &&
  (List.range l.length).all (fun i => decide (i ≤ m) || edgeB l i (i - 1))
theorem edgeB_spec {l : List Oper} {k j : Nat} (h : edgeB l k j = true) : ∃ o, l[k]? = some o ∧ ∃ e ∈ o.after, e.on = j ∧ Region.binds .any e = true := by
  unfold edgeB at h
  split at h
  · rename_i o ho
    simp only [List.any_eq_true, Bool.and_eq_true, beq_iff_eq] at h
    obtain ⟨e, he, h6, h7⟩ := h
    exact ⟨o, ho, e, by simpa using he, h6, h7⟩
  · cases h
theorem tailB_spec {l : List Oper} {m : Nat} (h : tailB l m = true) :
    (∀ (i j : Nat) a b, l[i]? = some a → l[j]? = some b → i ≠ j → a.dst.isNone = true ∨ a.dst ≠ b.dst) ∧ (∀ (i : Nat) o, l[i]? = some o → ∀ e ∈ o.after, e.on < i) ∧ m < l.length ∧
    (∀ j, j < m → ∃ k, j < k ∧ k ≤ m ∧ edgeB l k j = true) ∧ (∀ i, m < i → i < l.length → edgeB l i (i - 1) = true) := by
  simp only [tailB, Bool.and_eq_true, List.all_eq_true, List.mem_range, decide_eq_true_eq] at h
  obtain ⟨⟨⟨⟨h1, h2⟩, h3⟩, h4⟩, h5⟩ := h
  refine ⟨fun i j a b hi hj hne => ?_, fun i o hi e he => ?_, h3, fun j hj => ?_, fun i h h' => ?_⟩
  · have := h1 i (List.getElem?_eq_some_iff.1 hi).1 j (List.getElem?_eq_some_iff.1 hj).1
    simp only [hi, hj, Bool.or_eq_true, beq_iff_eq, Bool.not_eq_true', beq_eq_false_iff_ne] at this
    rcases this with h | h | h
    · exact absurd h hne
    · exact .inl h
    · exact .inr h
  · have := h2 i (List.getElem?_eq_some_iff.1 hi).1
    simp only [hi, Array.all_eq_true_iff_forall_mem, decide_eq_true_eq] at this
    exact this e he
  · have := h4 j hj
    simp only [List.any_eq_true, List.mem_range, Bool.and_eq_true, decide_eq_true_eq] at this
    obtain ⟨k, h6, h7, h8⟩ := this
    exact ⟨k, h7, by omega, h8⟩
  · have := h5 i h'
    simp only [Bool.or_eq_true, decide_eq_true_eq] at this
    rcases this with h9 | h9
    · omega
    · exact h9
theorem tail_any {l : List Oper} {m : Nat} {Q : Exit → Act → World → Prop} (hlt : ∀ (i : Nat) o, l[i]? = some o → ∀ e ∈ o.after, e.on < i) (hchain : ∀ i, m < i → i < l.length → edgeB l i (i - 1) = true) :
    ∀ (fuel k : Nat) (listed : Array Bool) (a : Act) (w : World), m ≤ k → l.length - k ≤ fuel → listed.size = l.length → (∀ j, j < k → j < l.length → listed.getD j false = true) → (∀ j, k ≤ j → listed.getD j false = false) →
      wpList Tryz.prog l.toArray Q (l.drop k) a w → wpAny Tryz.prog .any l.toArray Q fuel listed a w := by
  intro fuel
  induction fuel with
  | zero =>
    intro k listed a w hm hf hsz h1 h2 hx
    have hall : ∀ i, i < l.length → listed.getD i false = true := fun i hi => h1 i (by omega) hi
    rw [List.drop_of_length_le (by omega)] at hx
    exact ⟨ready_nil hall, hx⟩
  | succ fuel ih =>
    intro k listed a w hm hf hsz h1 h2 hx
    rcases Nat.lt_or_ge k l.length with hk | hk
    · refine ⟨fun hr => ?_, fun i hi => ?_⟩
      · exfalso
        have hj : k ∈ Region.ready .any l.toArray listed := by
          rw [mem_ready]
          have hkf := h2 k (Nat.le_refl _)
          have hks : k < listed.size := by omega
          refine ⟨by simpa [hks] using hkf, l[k], by simp [hk], fun e he _ => ?_⟩
          have := hlt k _ (List.getElem?_eq_getElem hk) e he
          exact h1 _ this (by omega)
        rw [hr] at hj; cases hj
      · rw [mem_ready] at hi
        obtain ⟨hun, o, ho, hdep⟩ := hi
        have ho' : l[i]? = some o := by simpa using ho
        have hil : i < l.length := (List.getElem?_eq_some_iff.1 ho').1
        have hif : listed.getD i false = false := by
          have : i < listed.size := by omega
          simpa [this] using hun
        have hik : i = k := by
          rcases Nat.lt_or_ge i k with h | h
          · rw [h1 i h hil] at hif; cases hif
          · rcases Nat.eq_or_lt_of_le h with h | h
            · exact h.symm
            · exfalso
              obtain ⟨o2, ho2, e, he, h6, h7⟩ := edgeB_spec (hchain i (by omega) hil)
              rw [ho'] at ho2; cases ho2
              have := hdep e he h7
              rw [h6, h2 (i - 1) (by omega)] at this
              cases this
        subst hik
        have hset : ∀ j, j ≠ i → (listed.setIfInBounds i true).getD j false = listed.getD j false := fun j hj => getD_set_ne false (Ne.symm hj)
        have hseti : (listed.setIfInBounds i true).getD i false = true := by
          have : i < listed.size := by omega
          simp [this]
        rw [List.drop_eq_getElem_cons hil] at hx
        have hoi : l[i] = o := by have := ho'; rw [List.getElem?_eq_getElem hil] at this; cases this; rfl
        rw [hoi] at hx
        have hnext : ∀ a' w', wpList Tryz.prog l.toArray Q (l.drop (i + 1)) a' w' → wpAny Tryz.prog .any l.toArray Q fuel (listed.setIfInBounds i true) a' w' := fun a' w' h =>
          ih (i + 1) _ a' w' (by omega) (by omega) (by simpa using hsz) (fun j hj hjl => by
            by_cases hji : j = i
            · subst hji; exact hseti
            · rw [hset j hji]; exact h1 j (by omega) hjl) (fun j hj => by rw [hset j (by omega)]; exact h2 j (by omega)) h
        unfold wpOp
        simp only [List.getElem?_toArray, ho']
        unfold wpList at hx
        split
        · rename_i hw
          simp only [hw, if_true] at hx
          exact hx.imp (Oper.wp_mono fun a' w' h => hnext a' w' h) id
        · rename_i hw
          simp only [hw] at hx
          exact hnext _ _ hx
    · have hall : ∀ i, i < l.length → listed.getD i false = true := fun i hi => h1 i (by omega) hi
      rw [List.drop_of_length_le (by omega)] at hx
      exact wpAny_end hall hx _
theorem countGe (m n : Nat) : ((List.range n).filter fun j => decide (m ≤ j)).length = n - m := by
  induction n with
  | zero => simp
  | succ n ih =>
    rw [List.range_succ, List.filter_append, List.length_append, ih]
    by_cases h : m ≤ n
    · simp [h]; omega
    · simp [h]; omega
theorem rely_tail {l : List Oper} {φ : List (Value → World → Prop)} {W : World} {a0 : Act} {Q : Exit → Act → World → Prop} (hB : tailB l φ.length = true) (hD : dstB (l.take φ.length) a0.tmps.size = true)
    (hmono : ∀ f ∈ φ, ∀ v w w', f v w → Below w.heap.size w w' → f v w') (hstep : DutiesT l φ W a0 Q l φ)
    (hend : ∀ vs w, Below W.heap.size W w → owed vs w φ 0 → wpList Tryz.prog l.toArray Q (l.drop φ.length) (puts vs (l.take φ.length) 0 a0) w) :
    ∀ (fuel : Nat) (listed : Array Bool) (a : Act) (w : World), ((List.range l.length).filter fun j => !listed.getD j false).length ≤ fuel → listed.size = l.length →
      (∀ j, φ.length ≤ j → listed.getD j false = false) → (∀ (i : Nat) o, l[i]? = some o → listed.getD i false = true → ∀ e ∈ o.after, Region.binds .any e = true → listed.getD e.on false = true) → RI l φ W a0 listed a w → wpAny Tryz.prog .any l.toArray Q fuel listed a w := by
  obtain ⟨hne, hlt, hm1, htail, hchain⟩ := tailB_spec hB
  have fin : ∀ (listed : Array Bool) (a : Act) (w : World), (∀ i, i < φ.length → listed.getD i false = true) → RI l φ W a0 listed a w → wpList Tryz.prog l.toArray Q (l.drop φ.length) a w := by
    intro listed a w hall hI
    obtain ⟨hb, hd, hs, hout, hf⟩ := hI
    have hv : ∀ (i : Nat) o f, l[i]? = some o → φ[i]? = some f → f (slot a o) w := fun i o f h1 h2 => hf i o f h1 h2 (hall i (List.getElem?_eq_some_iff.1 h2).1)
    have e := puts_eq (fun i => match l[i]? with | some o => slot a o | none => undef) a (l.take φ.length) 0 a0 hd hs hout (fun i o d h1 h2 => by
      have h1' : l[i]? = some o := by rw [List.getElem?_take] at h1; split at h1; exact h1; cases h1
      simp [h1', slot, h2])
    rw [e]
    refine hend _ w hb (owed_of φ 0 fun i f hi => ?_)
    have hi' : i < l.length := by have := (List.getElem?_eq_some_iff.1 hi).1; omega
    simp only [Nat.zero_add, List.getElem?_eq_getElem hi']
    exact hv i _ f (List.getElem?_eq_getElem hi') hi
  intro fuel
  induction fuel with
  | zero =>
    intro listed a w hc hsz ht hdn hI
    exfalso
    have : φ.length ∈ (List.range l.length).filter fun j => !listed.getD j false := by
      rw [List.mem_filter, ht _ (Nat.le_refl _)]; simp [hm1]
    have := List.length_pos_of_mem this
    omega
  | succ fuel ih =>
    intro listed a w hc hsz ht hdn hI
    refine ⟨fun hr => absurd ((ht _ (Nat.le_refl _)).symm.trans (allListed hlt hsz hr _ hm1)) (by decide), fun i hi => ?_⟩
    rw [mem_ready] at hi
    obtain ⟨hun, o, ho, hdep⟩ := hi
    have ho' : l[i]? = some o := by simpa using ho
    have hil : i < l.length := (List.getElem?_eq_some_iff.1 ho').1
    have hif : listed.getD i false = false := by
      have : i < listed.size := by omega
      simpa [this] using hun
    have hset : ∀ j, j ≠ i → (listed.setIfInBounds i true).getD j false = listed.getD j false := fun j hj => getD_set_ne false (Ne.symm hj)
    have hseti : (listed.setIfInBounds i true).getD i false = true := by
      have : i < listed.size := by omega
      simp [this]
    rcases Nat.lt_or_ge i φ.length with him | him
    · -- a duty
      have hfi : φ[i]? = some φ[i] := List.getElem?_eq_getElem him
      have hcnt : ((List.range l.length).filter fun j => !(listed.setIfInBounds i true).getD j false).length ≤ fuel := by
        have := filter_lt (fun j => !listed.getD j false) (fun j => !(listed.setIfInBounds i true).getD j false) i (by simp only [hif]; rfl) (by simp only [hseti]; rfl) (fun j hj => by
          by_cases hji : j = i
          · subst hji; simp only [hif]; rfl
          · simp only [hset j hji] at hj; exact hj) (List.range l.length) (by simpa using hil)
        omega
      have htl : ∀ j, φ.length ≤ j → (listed.setIfInBounds i true).getD j false = false := fun j h => by rw [hset _ (by omega)]; exact ht j h
      have hdn' : ∀ (j : Nat) oj, l[j]? = some oj → (listed.setIfInBounds i true).getD j false = true → ∀ e ∈ oj.after, Region.binds .any e = true → (listed.setIfInBounds i true).getD e.on false = true := fun j oj hj hl e he hbd => by
        by_cases hei : e.on = i
        · rw [hei]; exact hseti
        · rw [hset _ hei]
          by_cases hji : j = i
          · subst hji; rw [ho'] at hj; cases hj; exact hdep e he hbd
          · rw [hset j hji] at hl; exact hdn j oj hj hl e he hbd
      obtain ⟨hb, hd, hs, hout, hf⟩ := hI
      have hdeps : depsOf l φ a w o.after.toList := depsOf_of _ fun e he hbd => by
        unfold dep1
        split
        · rename_i oj f h1 h2
          exact hf e.on oj f h1 h2 (hdep e (by simpa using he) hbd)
        · trivial
      obtain ⟨hw1, hw2⟩ := duties_getT hstep i o φ[i] ho' hfi a w hb (fun t h => hout t h) hdeps
      have hnew : ∀ v w', φ[i] v w' → Below w.heap.size w w' → RI l φ W a0 (listed.setIfInBounds i true) (a.put o.dst v) w' := fun v w' hφ hg => by
        refine ⟨hb.trans (hg.mono hb.size), by rw [defers_put]; exact hd, by rw [size_put]; exact hs, fun t h => ?_, fun j oj f h1 h2 h3 => ?_⟩
        · rw [Act.eval_put (x := .tmp t) (fun d hd' he => by
            cases he
            simp only [outB, List.all_eq_true] at h
            have hmem : o ∈ l.take φ.length := by
              rw [List.mem_iff_getElem?]; exact ⟨i, by rw [List.getElem?_take, if_pos him]; exact ho'⟩
            have := h o hmem
            simp [hd'] at this)]
          exact hout t h
        · by_cases hji : j = i
          · subst hji
            rw [ho'] at h1; cases h1
            rw [hfi] at h2; cases h2
            have hmem : o ∈ l.take φ.length := by
              rw [List.mem_iff_getElem?]; exact ⟨j, by rw [List.getElem?_take, if_pos him]; exact ho'⟩
            simp only [dstB, List.all_eq_true] at hD
            have hd1 := hD o hmem
            unfold slot
            cases hdo : o.dst with
            | none => simp [hdo] at hd1
            | some d =>
              have hd2 : d < a0.tmps.size := by simpa [hdo] using hd1
              have e : (a.put (some d) v).eval (.tmp d) = v := by
                have : d < a.tmps.size := by rw [hs]; exact hd2
                simp [eval_tmp, Act.put, this]
              simp only [e]
              exact hφ
          · rw [slot_put_ne v (hne j i oj o h1 ho' hji)]
            exact hmono f (List.mem_of_getElem? h2) _ _ _ (hf j oj f h1 h2 (by rw [← hset j hji]; exact h3)) hg
      unfold wpOp
      simp only [List.getElem?_toArray, ho']
      split
      · rename_i hw
        refine .inl (Oper.wp_mono (fun a' w' h => ?_) (hw1 hw))
        obtain ⟨v, rfl, hφ, hg⟩ := h
        exact ih _ _ _ hcnt (by simpa using hsz) htl hdn' (hnew v w' hφ hg)
      · rename_i hw
        exact ih _ _ _ hcnt (by simpa using hsz) htl hdn' (hnew undef w (hw2 (by simpa using hw)) (Below.refl _ _))
    · -- the tail
      have hil' : i = φ.length := by
        rcases Nat.eq_or_lt_of_le him with h | h
        · exact h.symm
        · exfalso
          obtain ⟨o2, ho2, e, he, h6, h7⟩ := edgeB_spec (hchain i (by omega) hil)
          rw [ho'] at ho2; cases ho2
          have := hdep e he h7
          rw [h6, ht (i - 1) (by omega)] at this
          cases this
      have hallN : ∀ n j, φ.length - j = n → j < φ.length → listed.getD j false = true := by
        intro n
        induction n using Nat.strongRecOn with
        | _ n ih2 =>
          intro j hn hj
          obtain ⟨k, hk1, hk2, hke⟩ := htail j hj
          obtain ⟨o2, ho2, e, he, h6, h7⟩ := edgeB_spec hke
          rcases Nat.eq_or_lt_of_le hk2 with h | h
          · rw [h, ← hil', ho'] at ho2; cases ho2
            rw [← h6]; exact hdep e he h7
          · rw [← h6]; exact hdn k o2 ho2 (ih2 (φ.length - k) (by omega) k rfl h) e he h7
      have hall : ∀ j, j < φ.length → listed.getD j false = true := fun j hj => hallN _ j rfl hj
      have hx := fin listed a w hall hI
      have hcl : l.length - φ.length ≤ fuel + 1 := by
        have h9 : ((List.range l.length).filter fun j => decide (φ.length ≤ j)).length ≤ ((List.range l.length).filter fun j => !listed.getD j false).length := by
          rw [← List.countP_eq_length_filter, ← List.countP_eq_length_filter]
          refine List.countP_mono_left fun j _ h => ?_
          rw [decide_eq_true_eq] at h
          rw [ht j h]; rfl
        have h10 : ((List.range l.length).filter fun j => decide (φ.length ≤ j)).length = l.length - φ.length := countGe _ _
        omega
      have hz := tail_any (Q := Q) hlt hchain (fuel + 1) φ.length listed a w (Nat.le_refl _) hcl hsz (fun j hj _ => hall j hj) ht hx
      exact hz.2 i (by rw [mem_ready]; exact ⟨hun, o, ho, hdep⟩)
theorem wp_reliesT {l : List Oper} {id : Nat} {W : World} {a0 : Act} {Q : Exit → Act → World → Prop} (φ : List (Value → World → Prop)) (hB : tailB l φ.length = true) (hD : dstB (l.take φ.length) a0.tmps.size = true)
    (hmono : ∀ f ∈ φ, ∀ v w w', f v w → Below w.heap.size w w' → f v w') (hstep : DutiesRT l φ W a0 l φ)
    (hend : ∀ vs w, Below W.heap.size W w → owed vs w φ 0 → wpList Tryz.prog l.toArray Q (asg vs (l.take φ.length) 0 ++ l.drop φ.length) a0 w) : (Code.region id l.toArray true).wp Tryz.prog Q a0 W := by
  refine wp_region_any (by kernel_rfl) (rely_tail hB hD hmono (duties_ofT l φ hstep) (fun vs w h1 h2 => wpList_asg vs _ _ _ (hend vs w h1 h2)) _ _ _ _ ?_ (by simp) (fun j _ => by rw [Array.getD_eq_getD_getElem?, Array.getElem?_replicate]; split <;> rfl) (fun i o _ h => by
    exfalso
    rw [Array.getD_eq_getD_getElem?, Array.getElem?_replicate] at h
    split at h <;> simp at h) ⟨(Below.refl _ _).drew, rfl, rfl, fun _ _ => rfl, fun i o f _ _ h => by
    exfalso
    rw [Array.getD_eq_getD_getElem?, Array.getElem?_replicate] at h
    split at h <;> simp at h⟩)
  have := List.length_filter_le (fun j => !(Array.replicate l.toArray.size false).getD j false) (List.range l.length)
  simpa using this
end Go.Proofs.YtalnbddkhojjbaaGreatDoor
namespace Go.Proofs.YtalnbddkhojjbaaGreatDoor
open Go.RowKit

structure KOk (K : World → World → Prop) : Prop where
  below : ∀ {w w'}, Below w.heap.size w w' → K w w'
  trans : ∀ {w w' w''}, K w w' → K w' w'' → K w w''
def earlyB (l : List Oper) (m : Nat) (es : List Nat) : Bool := es.all fun j => (List.range (m + 1)).any fun k => decide (j < k) && (k == m || es.contains k) && edgeB l k j
def stepK (K : World → World → Prop) (m i : Nat) (w w' : World) : Prop := bif i == m then K w w' else Below w.heap.size w w'
theorem stepK_K {K : World → World → Prop} (hK : KOk K) {m i : Nat} {w w' : World} (h : stepK K m i w w') : K w w' := by
  unfold stepK at h
  cases hq : i == m <;> rw [hq] at h
  · exact hK.below h
  · exact h
theorem stepK_refl {K : World → World → Prop} (hK : KOk K) (m i : Nat) (w : World) : stepK K m i w w := by
  unfold stepK
  cases i == m
  · exact Below.refl _ _
  · exact hK.below (Below.refl _ _)
theorem early_listed {l : List Oper} {m : Nat} {es : List Nat} {listed : Array Bool} (hE : earlyB l m es = true) (hdn : ∀ (i : Nat) o, l[i]? = some o → listed.getD i false = true → ∀ e ∈ o.after, Region.binds .any e = true → listed.getD e.on false = true) (hl : listed.getD m false = true) : ∀ i, (i ∈ es ∨ i = m) → listed.getD i false = true := by
  have key : ∀ n i, m - i = n → i ∈ es → listed.getD i false = true := by
    intro n
    induction n using Nat.strongRecOn with
    | _ n ih =>
      intro i hn hi
      simp only [earlyB, List.all_eq_true, List.any_eq_true, List.mem_range, Bool.and_eq_true, Bool.or_eq_true, decide_eq_true_eq, beq_iff_eq] at hE
      obtain ⟨k, hk, ⟨hik, hkm⟩, he⟩ := hE i hi
      obtain ⟨o, ho, e, hee, h6, h7⟩ := edgeB_spec he
      rw [← h6]
      refine hdn k o ho ?_ e hee h7
      rcases hkm with rfl | hk2
      · exact hl
      · exact ih (m - k) (by omega) k rfl (by simpa using hk2)
  intro i hi
  rcases hi with hi | rfl
  · exact key _ i rfl hi
  · exact hl
def DutyK (l : List Oper) (φ : List (Value → World → Prop)) (W : World) (K : World → World → Prop) (es : List Nat) (m : Nat) (a0 : Act) (Q : Exit → Act → World → Prop) (i : Nat) (o : Oper) (f : Value → World → Prop) : Prop :=
  ∀ a w, K W w → ((es.contains i || i == m) = true → Below W.heap.size W w) → (∀ t, outB (l.take φ.length) t = true → a.eval (.tmp t) = a0.eval (.tmp t)) → depsOf l φ a w o.after.toList →
    (Region.wanted o (yielded l.toArray a.tmps) = true → o.wp Tryz.prog a w (fun a' w' => ∃ v, a' = a.put o.dst v ∧ f v w' ∧ stepK K m i w w') Q) ∧
    (Region.wanted o (yielded l.toArray a.tmps) = false → f undef w)
def DutiesK (l : List Oper) (φ : List (Value → World → Prop)) (W : World) (K : World → World → Prop) (es : List Nat) (m : Nat) (a0 : Act) (Q : Exit → Act → World → Prop) : Nat → List Oper → List (Value → World → Prop) → Prop
  | i, o :: r, f :: g => DutyK l φ W K es m a0 Q i o f ∧ DutiesK l φ W K es m a0 Q (i + 1) r g
  | _, _, _ => True
theorem duties_getK {l : List Oper} {φ : List (Value → World → Prop)} {W : World} {K : World → World → Prop} {es : List Nat} {m : Nat} {a0 : Act} {Q : Exit → Act → World → Prop} : ∀ {k : Nat} {r : List Oper} {g : List (Value → World → Prop)}, DutiesK l φ W K es m a0 Q k r g →
    ∀ (i : Nat) o f, r[i]? = some o → g[i]? = some f → DutyK l φ W K es m a0 Q (k + i) o f
  | _, [], _, _, _, _, _, h, _ => by simp at h
  | _, _ :: _, [], _, _, _, _, _, h => by simp at h
  | k, o :: r, f :: g, h, 0, o', f', h1, h2 => by simp at h1 h2; subst h1; subst h2; exact h.1
  | k, o :: r, f :: g, h, i + 1, o', f', h1, h2 => by
    have := duties_getK h.2 i o' f' (by simpa using h1) (by simpa using h2)
    rwa [show k + 1 + i = k + (i + 1) by omega] at this
def okUponK (K : World → World → Prop) (f : Value → World → Prop) (x : World) : Result Next → Prop
  | .ok (.value v) x' => f v x' ∧ K x x'
  | .ok (.enter fn args) x' => x' = x ∧ Calls Tryz.prog fn args x (fun e w' => ∃ v, e = .returned v ∧ f v w' ∧ K x w')
  | _ => False
@[go_sem] theorem okUponK_enter (K : World → World → Prop) (f : Value → World → Prop) (x x' : World) (fn : FuncId) (args : Array Value) :
    okUponK K f x (.ok (.enter fn args) x') = (x' = x ∧ Calls Tryz.prog fn args x (fun e w' => ∃ v, e = .returned v ∧ f v w' ∧ K x w')) := rfl
@[go_sem] theorem okUponK_value (K : World → World → Prop) (f : Value → World → Prop) (x x' : World) (v : Value) : okUponK K f x (.ok (.value v) x') = (f v x' ∧ K x x') := rfl
def DutyRK (l : List Oper) (φ : List (Value → World → Prop)) (W : World) (K : World → World → Prop) (es : List Nat) (m : Nat) (a0 : Act) (i : Nat) (o : Oper) (f : Value → World → Prop) : Prop :=
  ∀ (ρ : Operand → Value) (x : World), K W x → ((es.contains i || i == m) = true → Below W.heap.size W x) → (∀ v, ρ (.const v) = v) → (∀ g, ρ (.global g) = .pointer (some ⟨g, 0, none⟩)) → (∀ k, ρ (.func k) = .func (.func k) #[] #[]) →
    (∀ t, outB (l.take φ.length) t = true → ρ (.tmp t) = a0.eval (.tmp t)) → depsR l φ ρ x o.after.toList → guardR l ρ o (bif i == m then okUponK K f x ((execOp ρ o).run Tryz.prog x) else okUpon f x ((execOp ρ o).run Tryz.prog x)) (f undef x)
def DutiesRK (l : List Oper) (φ : List (Value → World → Prop)) (W : World) (K : World → World → Prop) (es : List Nat) (m : Nat) (a0 : Act) : Nat → List Oper → List (Value → World → Prop) → Prop
  | i, o :: r, f :: g => DutyRK l φ W K es m a0 i o f ∧ DutiesRK l φ W K es m a0 (i + 1) r g
  | _, _, _ => True
theorem duty_ofK {l : List Oper} {φ : List (Value → World → Prop)} {W : World} {K : World → World → Prop} {es : List Nat} {m : Nat} {a0 : Act} {i : Nat} {o : Oper} {f : Value → World → Prop} {Q : Exit → Act → World → Prop} (h : DutyRK l φ W K es m a0 i o f) : DutyK l φ W K es m a0 Q i o f := by
  intro a w hk hb ho hd
  have hx := h a.eval w hk hb (fun _ => rfl) (fun _ => rfl) (fun _ => rfl) ho (depsR_of _ hd)
  have run : (bif i == m then okUponK K f w ((execOp a.eval o).run Tryz.prog w) else okUpon f w ((execOp a.eval o).run Tryz.prog w)) → o.wp Tryz.prog a w (fun a' w' => ∃ v, a' = a.put o.dst v ∧ f v w' ∧ stepK K m i w w') Q := by
    intro hk
    unfold Oper.wp stepK
    generalize (execOp a.eval o).run Tryz.prog w = r at hk
    cases hq : i == m <;> rw [hq] at hk
    · cases r with
      | ok n x' =>
        cases n <;> simp only [okUpon, cond_false] at hk
        case value v => exact ⟨v, rfl, hk.1, hk.2⟩
        case enter fn args =>
          obtain ⟨rfl, hc⟩ := hk
          exact hc.mono fun e w' ⟨v, he, hf, hb⟩ => by subst he; exact ⟨v, rfl, hf, hb⟩
      | halt e x' => simp only [okUpon, cond_false] at hk
    · cases r with
      | ok n x' =>
        cases n <;> simp only [okUponK, cond_true] at hk
        case value v => exact ⟨v, rfl, hk.1, hk.2⟩
        case enter fn args =>
          obtain ⟨rfl, hc⟩ := hk
          exact hc.mono fun e w' ⟨v, he, hf, hb⟩ => by subst he; exact ⟨v, rfl, hf, hb⟩
      | halt e x' => simp only [okUponK, cond_true] at hk
  unfold guardR at hx
  unfold Region.wanted
  cases hg : o.guard with
  | none => simp only [hg] at hx ⊢; exact ⟨fun _ => run hx, fun h => by cases h⟩
  | some q =>
    obtain ⟨j, b⟩ := q
    simp only [hg] at hx ⊢
    rw [yieldR_eq]
    exact ⟨fun h => run (hx.1 (by simpa using h)), fun h => hx.2 (by simpa using h)⟩
theorem duties_ofK {l : List Oper} {φ : List (Value → World → Prop)} {W : World} {K : World → World → Prop} {es : List Nat} {m : Nat} {a0 : Act} {Q : Exit → Act → World → Prop} : ∀ (k : Nat) (r : List Oper) (g : List (Value → World → Prop)), DutiesRK l φ W K es m a0 k r g → DutiesK l φ W K es m a0 Q k r g
  | _, [], _, _ => by unfold DutiesK; trivial
  | _, _ :: _, [], _ => by unfold DutiesK; trivial
  | k, _ :: r, _ :: g, h => ⟨duty_ofK h.1, duties_ofK (k + 1) r g h.2⟩
def RIK (l : List Oper) (φ : List (Value → World → Prop)) (W : World) (K : World → World → Prop) (m : Nat) (a0 : Act) (listed : Array Bool) (a : Act) (w : World) : Prop :=
  K W w ∧ (listed.getD m false = false → Below W.heap.size W w) ∧ a.defers = a0.defers ∧ a.tmps.size = a0.tmps.size ∧ (∀ t, outB (l.take φ.length) t = true → a.eval (.tmp t) = a0.eval (.tmp t)) ∧
  ∀ (i : Nat) o f, l[i]? = some o → φ[i]? = some f → listed.getD i false = true → f (slot a o) w
theorem rely_tailK {l : List Oper} {φ : List (Value → World → Prop)} {W : World} {K : World → World → Prop} {es : List Nat} {m : Nat} {a0 : Act} {Q : Exit → Act → World → Prop} (hK : KOk K) (hm : m < φ.length) (hE : earlyB l m es = true) (hB : tailB l φ.length = true) (hD : dstB (l.take φ.length) a0.tmps.size = true)
    (hmono : ∀ f ∈ φ, ∀ v w w', f v w → Below w.heap.size w w' → f v w') (hmonoK : ∀ f ∈ φ.eraseIdx m, ∀ v w w', f v w → K w w' → f v w') (hstep : DutiesK l φ W K es m a0 Q 0 l φ)
    (hend : ∀ vs w, K W w → owed vs w φ 0 → wpList Tryz.prog l.toArray Q (l.drop φ.length) (puts vs (l.take φ.length) 0 a0) w) :
    ∀ (fuel : Nat) (listed : Array Bool) (a : Act) (w : World), ((List.range l.length).filter fun j => !listed.getD j false).length ≤ fuel → listed.size = l.length →
      (∀ j, φ.length ≤ j → listed.getD j false = false) → (∀ (i : Nat) o, l[i]? = some o → listed.getD i false = true → ∀ e ∈ o.after, Region.binds .any e = true → listed.getD e.on false = true) → RIK l φ W K m a0 listed a w → wpAny Tryz.prog .any l.toArray Q fuel listed a w := by
  obtain ⟨hne, hlt, hm1, htail, hchain⟩ := tailB_spec hB
  have fin : ∀ (listed : Array Bool) (a : Act) (w : World), (∀ i, i < φ.length → listed.getD i false = true) → RIK l φ W K m a0 listed a w → wpList Tryz.prog l.toArray Q (l.drop φ.length) a w := by
    intro listed a w hall hI
    obtain ⟨hb, hbe, hd, hs, hout, hf⟩ := hI
    have hv : ∀ (i : Nat) o f, l[i]? = some o → φ[i]? = some f → f (slot a o) w := fun i o f h1 h2 => hf i o f h1 h2 (hall i (List.getElem?_eq_some_iff.1 h2).1)
    have e := puts_eq (fun i => match l[i]? with | some o => slot a o | none => undef) a (l.take φ.length) 0 a0 hd hs hout (fun i o d h1 h2 => by
      have h1' : l[i]? = some o := by rw [List.getElem?_take] at h1; split at h1; exact h1; cases h1
      simp [h1', slot, h2])
    rw [e]
    refine hend _ w hb (owed_of φ 0 fun i f hi => ?_)
    have hi' : i < l.length := by have := (List.getElem?_eq_some_iff.1 hi).1; omega
    simp only [Nat.zero_add, List.getElem?_eq_getElem hi']
    exact hv i _ f (List.getElem?_eq_getElem hi') hi
  intro fuel
  induction fuel with
  | zero =>
    intro listed a w hc hsz ht hdn hI
    exfalso
    have : φ.length ∈ (List.range l.length).filter fun j => !listed.getD j false := by
      rw [List.mem_filter, ht _ (Nat.le_refl _)]; simp [hm1]
    have := List.length_pos_of_mem this
    omega
  | succ fuel ih =>
    intro listed a w hc hsz ht hdn hI
    refine ⟨fun hr => absurd ((ht _ (Nat.le_refl _)).symm.trans (allListed hlt hsz hr _ hm1)) (by decide), fun i hi => ?_⟩
    rw [mem_ready] at hi
    obtain ⟨hun, o, ho, hdep⟩ := hi
    have ho' : l[i]? = some o := by simpa using ho
    have hil : i < l.length := (List.getElem?_eq_some_iff.1 ho').1
    have hif : listed.getD i false = false := by
      have : i < listed.size := by omega
      simpa [this] using hun
    have hset : ∀ j, j ≠ i → (listed.setIfInBounds i true).getD j false = listed.getD j false := fun j hj => getD_set_ne false (Ne.symm hj)
    have hseti : (listed.setIfInBounds i true).getD i false = true := by
      have : i < listed.size := by omega
      simp [this]
    rcases Nat.lt_or_ge i φ.length with him | him
    · -- a duty
      have hfi : φ[i]? = some φ[i] := List.getElem?_eq_getElem him
      have hcnt : ((List.range l.length).filter fun j => !(listed.setIfInBounds i true).getD j false).length ≤ fuel := by
        have := filter_lt (fun j => !listed.getD j false) (fun j => !(listed.setIfInBounds i true).getD j false) i (by simp only [hif]; rfl) (by simp only [hseti]; rfl) (fun j hj => by
          by_cases hji : j = i
          · subst hji; simp only [hif]; rfl
          · simp only [hset j hji] at hj; exact hj) (List.range l.length) (by simpa using hil)
        omega
      have htl : ∀ j, φ.length ≤ j → (listed.setIfInBounds i true).getD j false = false := fun j h => by rw [hset _ (by omega)]; exact ht j h
      have hdn' : ∀ (j : Nat) oj, l[j]? = some oj → (listed.setIfInBounds i true).getD j false = true → ∀ e ∈ oj.after, Region.binds .any e = true → (listed.setIfInBounds i true).getD e.on false = true := fun j oj hj hl e he hbd => by
        by_cases hei : e.on = i
        · rw [hei]; exact hseti
        · rw [hset _ hei]
          by_cases hji : j = i
          · subst hji; rw [ho'] at hj; cases hj; exact hdep e he hbd
          · rw [hset j hji] at hl; exact hdn j oj hj hl e he hbd
      obtain ⟨hb, hbe, hd, hs, hout, hf⟩ := hI
      have hdeps : depsOf l φ a w o.after.toList := depsOf_of _ fun e he hbd => by
        unfold dep1
        split
        · rename_i oj f h1 h2
          exact hf e.on oj f h1 h2 (hdep e (by simpa using he) hbd)
        · trivial
      have hear : (es.contains i || i == m) = true → Below W.heap.size W w := fun hh => hbe (by
        cases hlm : listed.getD m false with
        | false => rfl
        | true =>
          exfalso
          have hall9 := early_listed hE hdn hlm i (by simpa using hh)
          rw [hif] at hall9; cases hall9)
      obtain ⟨hw1, hw2⟩ := duties_getK hstep i o φ[i] ho' hfi a w hb (by rw [Nat.zero_add]; exact hear) (fun t h => hout t h) hdeps
      rw [Nat.zero_add] at hw1
      have hnew : ∀ v w', φ[i] v w' → stepK K m i w w' → RIK l φ W K m a0 (listed.setIfInBounds i true) (a.put o.dst v) w' := fun v w' hφ hg => by
        have hgK : K w w' := stepK_K hK hg
        refine ⟨hK.trans hb hgK, fun hl9 => ?_, by rw [defers_put]; exact hd, by rw [size_put]; exact hs, fun t h => ?_, fun j oj f h1 h2 h3 => ?_⟩
        · have him9 : i ≠ m := fun e9 => by rw [e9] at hseti; rw [e9, hseti] at hl9; cases hl9
          have hb9 := hbe (by rw [← hset m (Ne.symm him9)]; exact hl9)
          have hg9 : Below w.heap.size w w' := by unfold stepK at hg; rw [beq_false_of_ne him9] at hg; exact hg
          exact hb9.trans (hg9.mono hb9.size)
        · rw [Act.eval_put (x := .tmp t) (fun d hd' he => by
            cases he
            simp only [outB, List.all_eq_true] at h
            have hmem : o ∈ l.take φ.length := by
              rw [List.mem_iff_getElem?]; exact ⟨i, by rw [List.getElem?_take, if_pos him]; exact ho'⟩
            have := h o hmem
            simp [hd'] at this)]
          exact hout t h
        · by_cases hji : j = i
          · subst hji
            rw [ho'] at h1; cases h1
            rw [hfi] at h2; cases h2
            have hmem : o ∈ l.take φ.length := by
              rw [List.mem_iff_getElem?]; exact ⟨j, by rw [List.getElem?_take, if_pos him]; exact ho'⟩
            simp only [dstB, List.all_eq_true] at hD
            have hd1 := hD o hmem
            unfold slot
            cases hdo : o.dst with
            | none => simp [hdo] at hd1
            | some d =>
              have hd2 : d < a0.tmps.size := by simpa [hdo] using hd1
              have e : (a.put (some d) v).eval (.tmp d) = v := by
                have : d < a.tmps.size := by rw [hs]; exact hd2
                simp [eval_tmp, Act.put, this]
              simp only [e]
              exact hφ
          · rw [slot_put_ne v (hne j i oj o h1 ho' hji)]
            by_cases him9 : i = m
            · exact hmonoK f (List.mem_eraseIdx_iff_getElem?.2 ⟨j, fun e9 => hji (e9.trans him9.symm), h2⟩) _ _ _ (hf j oj f h1 h2 (by rw [← hset j hji]; exact h3)) hgK
            · have hg9 : Below w.heap.size w w' := by unfold stepK at hg; rw [beq_false_of_ne him9] at hg; exact hg
              exact hmono f (List.mem_of_getElem? h2) _ _ _ (hf j oj f h1 h2 (by rw [← hset j hji]; exact h3)) hg9
      unfold wpOp
      simp only [List.getElem?_toArray, ho']
      split
      · rename_i hw
        refine .inl (Oper.wp_mono (fun a' w' h => ?_) (hw1 hw))
        obtain ⟨v, rfl, hφ, hg⟩ := h
        exact ih _ _ _ hcnt (by simpa using hsz) htl hdn' (hnew v w' hφ hg)
      · rename_i hw
        exact ih _ _ _ hcnt (by simpa using hsz) htl hdn' (hnew undef w (hw2 (by simpa using hw)) (stepK_refl hK _ _ _))
    · -- the tail
      have hil' : i = φ.length := by
        rcases Nat.eq_or_lt_of_le him with h | h
        · exact h.symm
        · exfalso
          obtain ⟨o2, ho2, e, he, h6, h7⟩ := edgeB_spec (hchain i (by omega) hil)
          rw [ho'] at ho2; cases ho2
          have := hdep e he h7
          rw [h6, ht (i - 1) (by omega)] at this
          cases this
      have hallN : ∀ n j, φ.length - j = n → j < φ.length → listed.getD j false = true := by
        intro n
        induction n using Nat.strongRecOn with
        | _ n ih2 =>
          intro j hn hj
          obtain ⟨k, hk1, hk2, hke⟩ := htail j hj
          obtain ⟨o2, ho2, e, he, h6, h7⟩ := edgeB_spec hke
          rcases Nat.eq_or_lt_of_le hk2 with h | h
          · rw [h, ← hil', ho'] at ho2; cases ho2
            rw [← h6]; exact hdep e he h7
          · rw [← h6]; exact hdn k o2 ho2 (ih2 (φ.length - k) (by omega) k rfl h) e he h7
      have hall : ∀ j, j < φ.length → listed.getD j false = true := fun j hj => hallN _ j rfl hj
      have hx := fin listed a w hall hI
      have hcl : l.length - φ.length ≤ fuel + 1 := by
        have h9 : ((List.range l.length).filter fun j => decide (φ.length ≤ j)).length ≤ ((List.range l.length).filter fun j => !listed.getD j false).length := by
          rw [← List.countP_eq_length_filter, ← List.countP_eq_length_filter]
          refine List.countP_mono_left fun j _ h => ?_
          rw [decide_eq_true_eq] at h
          rw [ht j h]; rfl
        have h10 : ((List.range l.length).filter fun j => decide (φ.length ≤ j)).length = l.length - φ.length := countGe _ _
        omega
      have hz := tail_any (Q := Q) hlt hchain (fuel + 1) φ.length listed a w (Nat.le_refl _) hcl hsz (fun j hj _ => hall j hj) ht hx
      exact hz.2 i (by rw [mem_ready]; exact ⟨hun, o, ho, hdep⟩)
theorem wp_reliesK {l : List Oper} {id : Nat} {W : World} {a0 : Act} {Q : Exit → Act → World → Prop} {K : World → World → Prop} (hK : KOk K) (m : Nat) (es : List Nat) (φ : List (Value → World → Prop)) (hm : m < φ.length) (hE : earlyB l m es = true) (hB : tailB l φ.length = true) (hD : dstB (l.take φ.length) a0.tmps.size = true)
    (hmono : ∀ f ∈ φ, ∀ v w w', f v w → Below w.heap.size w w' → f v w') (hmonoK : ∀ f ∈ φ.eraseIdx m, ∀ v w w', f v w → K w w' → f v w') (hstep : DutiesRK l φ W K es m a0 0 l φ)
    (hend : ∀ vs w, K W w → owed vs w φ 0 → wpList Tryz.prog l.toArray Q (asg vs (l.take φ.length) 0 ++ l.drop φ.length) a0 w) : (Code.region id l.toArray true).wp Tryz.prog Q a0 W := by
  refine wp_region_any (by kernel_rfl) (rely_tailK hK hm hE hB hD hmono hmonoK (duties_ofK 0 l φ hstep) (fun vs w h1 h2 => wpList_asg vs _ _ _ (hend vs w h1 h2)) _ _ _ _ ?_ (by simp) (fun j _ => by rw [Array.getD_eq_getD_getElem?, Array.getElem?_replicate]; split <;> rfl) (fun i o _ h => by
    exfalso
    rw [Array.getD_eq_getD_getElem?, Array.getElem?_replicate] at h
    split at h <;> simp at h) ⟨hK.below (Below.refl _ _).drew, fun _ => (Below.refl _ _).drew, rfl, rfl, fun _ _ => rfl, fun i o f _ _ h => by
    exfalso
    rw [Array.getD_eq_getD_getElem?, Array.getElem?_replicate] at h
    split at h <;> simp at h⟩)
  have := List.length_filter_le (fun j => !(Array.replicate l.toArray.size false).getD j false) (List.range l.length)
  simpa using this
end Go.Proofs.YtalnbddkhojjbaaGreatDoor
namespace Go.Proofs.YtalnbddkhojjbaaGreatDoor
open Go.RowKit

def pathB (l : List Oper) : Nat → List Nat → Nat → Bool
  | k, [], j => edgeB l k j
  | k, x :: r, j => edgeB l k x && pathB l x r j
theorem path_listed {l : List Oper} {listed : Array Bool} (hdn : ∀ (i : Nat) o, l[i]? = some o → listed.getD i false = true → ∀ e ∈ o.after, Region.binds .any e = true → listed.getD e.on false = true) : ∀ (p : List Nat) (k j : Nat), pathB l k p j = true → listed.getD k false = true → listed.getD j false = true
  | [], k, j, h, hk => by
    obtain ⟨o, ho, e, he, h6, h7⟩ := edgeB_spec h
    rw [← h6]; exact hdn k o ho hk e he h7
  | x :: r, k, j, h, hk => by
    simp only [pathB, Bool.and_eq_true] at h
    obtain ⟨o, ho, e, he, h6, h7⟩ := edgeB_spec h.1
    exact path_listed hdn r x j h.2 (by rw [← h6]; exact hdn k o ho hk e he h7)
theorem path_ready {l : List Oper} {listed : Array Bool} (hdn : ∀ (i : Nat) o, l[i]? = some o → listed.getD i false = true → ∀ e ∈ o.after, Region.binds .any e = true → listed.getD e.on false = true) {k : Nat} {o : Oper} (ho : l[k]? = some o) (hdep : ∀ e ∈ o.after, Region.binds .any e = true → listed.getD e.on false = true) : ∀ (p : List Nat) (j : Nat), pathB l k p j = true → listed.getD j false = true
  | [], j, h => by
    obtain ⟨o2, ho2, e, he, h6, h7⟩ := edgeB_spec h
    rw [ho] at ho2; cases ho2
    rw [← h6]; exact hdep e he h7
  | x :: r, j, h => by
    simp only [pathB, Bool.and_eq_true] at h
    obtain ⟨o2, ho2, e, he, h6, h7⟩ := edgeB_spec h.1
    rw [ho] at ho2; cases ho2
    exact path_listed hdn r x j h.2 (by rw [← h6]; exact hdep e he h7)
abbrev Stg := Option (Nat × List Nat × List Nat)
def stageB (l : List Oper) (ms : List Nat) (i : Nat) (g : Nat × List Nat × List Nat) : Bool :=
  decide (g.1 ≤ ms.length) && (g.1 == 0 || pathB l i g.2.1 (ms.getD (g.1 - 1) 0)) && (decide (ms.length ≤ g.1) || (ms.getD g.1 0 == i || pathB l (ms.getD g.1 0) g.2.2 i))
def stagesB (l : List Oper) (ms : List Nat) : Nat → List Stg → Bool
  | _, [] => true
  | i, none :: r => !ms.contains i && stagesB l ms (i + 1) r
  | i, some g :: r => stageB l ms i g && (!ms.contains i || ms.idxOf i == g.1) && stagesB l ms (i + 1) r
theorem stages_get {l : List Oper} {ms : List Nat} : ∀ {k : Nat} {gs : List Stg}, stagesB l ms k gs = true → ∀ (i : Nat) g, gs[i]? = some g → (∀ q, g = some q → stageB l ms (k + i) q = true) ∧ (ms.contains (k + i) = true → ∃ q, g = some q ∧ q.1 = ms.idxOf (k + i))
  | _, [], _, _, _, h => by simp at h
  | k, none :: r, h, 0, g, hg => by
    simp only [stagesB, Bool.and_eq_true] at h
    simp at hg; subst hg
    refine ⟨fun q hq => (by cases hq), fun hc => ?_⟩
    rw [Nat.add_zero] at hc; rw [hc] at h; simp at h
  | k, some q :: r, h, 0, g, hg => by
    simp only [stagesB, Bool.and_eq_true] at h
    simp at hg; subst hg
    refine ⟨fun q' hq => (by cases hq; exact h.1.1), fun hc => ⟨q, rfl, ?_⟩⟩
    rw [Nat.add_zero] at hc ⊢
    have := h.1.2
    rw [hc] at this
    simpa using (by simpa using this : ms.idxOf k = q.1).symm
  | k, none :: r, h, i + 1, g, hg => by
    simp only [stagesB, Bool.and_eq_true] at h
    have := stages_get h.2 i g (by simpa using hg)
    rwa [show k + 1 + i = k + (i + 1) by omega] at this
  | k, some q :: r, h, i + 1, g, hg => by
    simp only [stagesB, Bool.and_eq_true] at h
    have := stages_get h.2 i g (by simpa using hg)
    rwa [show k + 1 + i = k + (i + 1) by omega] at this
def valR (l : List Oper) (ρ : Operand → Value) (j : Nat) : Value := match l[j]? with | some o => slotR ρ o | none => undef
def stepI (K : World → World → Prop) (ms : List Nat) (i : Nat) (w w' : World) : Prop := bif ms.contains i then K w w' else Below w.heap.size w w'
def stI (I : List Value → World → Prop) (l : List Oper) (ms : List Nat) (ρ : Operand → Value) (i : Nat) (f : Value → World → Prop) : Value → World → Prop := fun v x => bif ms.contains i then f v x ∧ I ((ms.take (ms.idxOf i)).map (valR l ρ) ++ [v]) x else f v x
def atI (I : List Value → World → Prop) (l : List Oper) (ms : List Nat) (ρ : Operand → Value) (x : World) : Stg → Prop
  | some q => I ((ms.take q.1).map (valR l ρ)) x
  | none => True
def okSkip (K : World → World → Prop) (f : Value → World → Prop) (x : World) : Result Next → Prop
  | .ok .skip x' => f undef x' ∧ K x x'
  | _ => False
def okUponD (o : Oper) (K : World → World → Prop) (f : Value → World → Prop) (x : World) (r : Result Next) : Prop :=
  match o.dst with | some _ => okUponK K f x r | none => okSkip K f x r
@[go_sem] theorem okSkip_skip (K : World → World → Prop) (f : Value → World → Prop) (x x' : World) : okSkip K f x (.ok .skip x') = (f undef x' ∧ K x x') := rfl
@[go_sem] theorem okUponD_some (d : Tmp) (op : Op) (ty : TypeId) (pos : String) (after : Array Edge) (guard : Option (Nat × Bool)) (K : World → World → Prop) (f : Value → World → Prop) (x : World) (r : Result Next) : okUponD { dst := some d, op, type := ty, pos, after, guard } K f x r = okUponK K f x r := rfl
@[go_sem] theorem okUponD_none (op : Op) (ty : TypeId) (pos : String) (after : Array Edge) (guard : Option (Nat × Bool)) (K : World → World → Prop) (f : Value → World → Prop) (x : World) (r : Result Next) : okUponD { dst := none, op, type := ty, pos, after, guard } K f x r = okSkip K f x r := rfl
def dstI (ms : List Nat) (n : Nat) : Nat → List Oper → Bool
  | _, [] => true
  | i, o :: r => (match o.dst with | some d => decide (d < n) | none => ms.contains i) && dstI ms n (i + 1) r
theorem dstI_get {ms : List Nat} {n : Nat} : ∀ {l : List Oper} {k : Nat}, dstI ms n k l = true → ∀ (i : Nat) o, l[i]? = some o → (match o.dst with | some d => decide (d < n) | none => ms.contains (k + i)) = true
  | [], _, _, _, _, h => by simp at h
  | o :: r, k, h, 0, o', h' => by
    simp at h'; subst h'
    simp only [dstI, Bool.and_eq_true] at h
    exact h.1
  | o :: r, k, h, i + 1, o', h' => by
    simp only [dstI, Bool.and_eq_true] at h
    have := dstI_get h.2 i o' (by simpa using h')
    rwa [show k + 1 + i = k + (i + 1) by omega] at this
def DutyI (l : List Oper) (φ : List (Value → World → Prop)) (W : World) (K : World → World → Prop) (I : List Value → World → Prop) (ms : List Nat) (a0 : Act) (Q : Exit → Act → World → Prop) (i : Nat) (o : Oper) (f : Value → World → Prop) (g : Stg) : Prop :=
  ∀ a w, K W w → atI I l ms a.eval w g → (∀ t, outB (l.take φ.length) t = true → a.eval (.tmp t) = a0.eval (.tmp t)) → depsOf l φ a w o.after.toList →
    (Region.wanted o (yielded l.toArray a.tmps) = true → o.wp Tryz.prog a w (fun a' w' => ∃ v, a' = a.put o.dst v ∧ (ms.contains i = true → o.dst = none → v = undef) ∧ stI I l ms a.eval i f v w' ∧ stepI K ms i w w') Q) ∧
    (Region.wanted o (yielded l.toArray a.tmps) = false → stI I l ms a.eval i f undef w)
def DutyRI (l : List Oper) (φ : List (Value → World → Prop)) (W : World) (K : World → World → Prop) (I : List Value → World → Prop) (ms : List Nat) (a0 : Act) (i : Nat) (o : Oper) (f : Value → World → Prop) (g : Stg) : Prop :=
  ∀ (ρ : Operand → Value) (x : World), K W x → atI I l ms ρ x g → (∀ v, ρ (.const v) = v) → (∀ g, ρ (.global g) = .pointer (some ⟨g, 0, none⟩)) → (∀ k, ρ (.func k) = .func (.func k) #[] #[]) →
    (∀ t, outB (l.take φ.length) t = true → ρ (.tmp t) = a0.eval (.tmp t)) → depsR l φ ρ x o.after.toList → guardR l ρ o (bif ms.contains i then okUponD o K (stI I l ms ρ i f) x ((execOp ρ o).run Tryz.prog x) else okUpon f x ((execOp ρ o).run Tryz.prog x)) (stI I l ms ρ i f undef x)
def DutiesRI (l : List Oper) (φ : List (Value → World → Prop)) (W : World) (K : World → World → Prop) (I : List Value → World → Prop) (ms : List Nat) (a0 : Act) : Nat → List Oper → List (Value → World → Prop) → List Stg → Prop
  | i, o :: r, f :: g, s :: t => DutyRI l φ W K I ms a0 i o f s ∧ DutiesRI l φ W K I ms a0 (i + 1) r g t
  | _, _, _, _ => True
theorem duties_getI {l : List Oper} {φ : List (Value → World → Prop)} {W : World} {K : World → World → Prop} {I : List Value → World → Prop} {ms : List Nat} {a0 : Act} : ∀ {k : Nat} {r : List Oper} {g : List (Value → World → Prop)} {t : List Stg}, DutiesRI l φ W K I ms a0 k r g t →
    ∀ (i : Nat) o f s, r[i]? = some o → g[i]? = some f → t[i]? = some s → DutyRI l φ W K I ms a0 (k + i) o f s
  | _, [], _, _, _, _, _, _, _, h, _, _ => by simp at h
  | _, _ :: _, [], _, _, _, _, _, _, _, h, _ => by simp at h
  | _, _ :: _, _ :: _, [], _, _, _, _, _, _, _, h => by simp at h
  | k, o :: r, f :: g, s :: t, h, 0, o', f', s', h1, h2, h3 => by simp at h1 h2 h3; subst h1; subst h2; subst h3; exact h.1
  | k, o :: r, f :: g, s :: t, h, i + 1, o', f', s', h1, h2, h3 => by
    have := duties_getI h.2 i o' f' s' (by simpa using h1) (by simpa using h2) (by simpa using h3)
    rwa [show k + 1 + i = k + (i + 1) by omega] at this
theorem duty_ofI {l : List Oper} {φ : List (Value → World → Prop)} {W : World} {K : World → World → Prop} {I : List Value → World → Prop} {ms : List Nat} {a0 : Act} {i : Nat} {o : Oper} {f : Value → World → Prop} {g : Stg} {Q : Exit → Act → World → Prop} (h : DutyRI l φ W K I ms a0 i o f g) : DutyI l φ W K I ms a0 Q i o f g := by
  intro a w hk hb ho hd
  have hx := h a.eval w hk hb (fun _ => rfl) (fun _ => rfl) (fun _ => rfl) ho (depsR_of _ hd)
  have run : (bif ms.contains i then okUponD o K (stI I l ms a.eval i f) w ((execOp a.eval o).run Tryz.prog w) else okUpon f w ((execOp a.eval o).run Tryz.prog w)) → o.wp Tryz.prog a w (fun a' w' => ∃ v, a' = a.put o.dst v ∧ (ms.contains i = true → o.dst = none → v = undef) ∧ stI I l ms a.eval i f v w' ∧ stepI K ms i w w') Q := by
    intro hk
    unfold Oper.wp stepI
    generalize (execOp a.eval o).run Tryz.prog w = r at hk
    cases hq : ms.contains i <;> rw [hq] at hk
    · have e : ∀ v w', f v w' → stI I l ms a.eval i f v w' := fun v w' hf => by unfold stI; rw [hq]; exact hf
      cases r with
      | ok n x' =>
        cases n <;> simp only [okUpon, cond_false] at hk
        case value v => exact ⟨v, rfl, (fun h => by cases h), e _ _ hk.1, hk.2⟩
        case enter fn args =>
          obtain ⟨rfl, hc⟩ := hk
          exact hc.mono fun e1 w' ⟨v, he, hf, hb⟩ => by subst he; exact ⟨v, rfl, (fun h => by cases h), e _ _ hf, hb⟩
      | halt e x' => simp only [okUpon, cond_false] at hk
    · rw [cond_true] at hk
      unfold okUponD at hk
      split at hk
      · rename_i d9 hd9
        cases r with
        | ok n x' =>
          cases n <;> simp only [okUponK] at hk
          case value v => exact ⟨v, rfl, (fun _ h => by rw [hd9] at h; cases h), hk.1, hk.2⟩
          case enter fn args =>
            obtain ⟨rfl, hc⟩ := hk
            exact hc.mono fun e w' ⟨v, he, hf, hb⟩ => by subst he; exact ⟨v, rfl, (fun _ h => by rw [hd9] at h; cases h), hf, hb⟩
        | halt e x' => simp only [okUponK] at hk
      · cases r with
        | ok n x' =>
          cases n <;> simp only [okSkip] at hk
          case skip => exact ⟨undef, rfl, fun _ _ => rfl, hk.1, hk.2⟩
        | halt e x' => simp only [okSkip] at hk
  unfold guardR at hx
  unfold Region.wanted
  cases hg : o.guard with
  | none => simp only [hg] at hx ⊢; exact ⟨fun _ => run hx, fun h => by cases h⟩
  | some q =>
    obtain ⟨j, b⟩ := q
    simp only [hg] at hx ⊢
    rw [yieldR_eq]
    exact ⟨fun h => run (hx.1 (by simpa using h)), fun h => hx.2 (by simpa using h)⟩
def RII (l : List Oper) (φ : List (Value → World → Prop)) (W : World) (K : World → World → Prop) (I : List Value → World → Prop) (ms : List Nat) (a0 : Act) (listed : Array Bool) (a : Act) (w : World) : Prop :=
  K W w ∧ (∃ s, s ≤ ms.length ∧ (∀ k, k < ms.length → listed.getD (ms.getD k 0) false = decide (k < s)) ∧ I ((ms.take s).map (valR l a.eval)) w) ∧ a.defers = a0.defers ∧ a.tmps.size = a0.tmps.size ∧ (∀ t, outB (l.take φ.length) t = true → a.eval (.tmp t) = a0.eval (.tmp t)) ∧
  ∀ (i : Nat) o f, l[i]? = some o → φ[i]? = some f → listed.getD i false = true → f (slot a o) w
def lateB (ms : List Nat) : Stg → Bool
  | some q => q.1 == ms.length && !(ms.length == 0)
  | none => false
theorem late_listed {l : List Oper} {ms : List Nat} {listed : Array Bool} (hdn : ∀ (i : Nat) o, l[i]? = some o → listed.getD i false = true → ∀ e ∈ o.after, Region.binds .any e = true → listed.getD e.on false = true) {j : Nat} {g : Stg} (hg : ∀ q, g = some q → stageB l ms j q = true) (hl : lateB ms g = true) (hj : listed.getD j false = true) : 0 < ms.length ∧ listed.getD (ms.getD (ms.length - 1) 0) false = true := by
  cases g with
  | none => cases hl
  | some q =>
    have h := hg q rfl
    simp only [lateB, Bool.and_eq_true, beq_iff_eq, Bool.not_eq_true', beq_eq_false_iff_ne] at hl
    simp only [stageB, Bool.and_eq_true, Bool.or_eq_true, decide_eq_true_eq, beq_iff_eq] at h
    refine ⟨by omega, ?_⟩
    rcases h.1.2 with h0 | h0
    · omega
    · rw [hl.1] at h0; exact path_listed hdn _ _ _ h0 hj
theorem stage_is {l : List Oper} {ms : List Nat} {listed : Array Bool} (hdn : ∀ (i : Nat) o, l[i]? = some o → listed.getD i false = true → ∀ e ∈ o.after, Region.binds .any e = true → listed.getD e.on false = true) {i : Nat} {o : Oper} (ho : l[i]? = some o) (hdep : ∀ e ∈ o.after, Region.binds .any e = true → listed.getD e.on false = true) (hif : listed.getD i false = false)
    {g : Nat × List Nat × List Nat} (hg : stageB l ms i g = true) {s : Nat} (hs : s ≤ ms.length) (hk : ∀ k, k < ms.length → listed.getD (ms.getD k 0) false = decide (k < s)) : s = g.1 := by
  simp only [stageB, Bool.and_eq_true, Bool.or_eq_true, decide_eq_true_eq, beq_iff_eq] at hg
  obtain ⟨⟨h1, h2⟩, h3⟩ := hg
  have a1 : g.1 ≤ s := by
    rcases h2 with h2 | h2
    · omega
    · rcases Nat.eq_zero_or_pos g.1 with hz | hz
      · omega
      · have := path_ready hdn ho hdep _ _ h2
        rw [hk (g.1 - 1) (by omega)] at this
        have := of_decide_eq_true this
        omega
  have a2 : s ≤ g.1 := by
    rcases h3 with h3 | h3
    · omega
    · rcases Nat.lt_or_ge g.1 ms.length with hlt | hge
      · have hn : listed.getD (ms.getD g.1 0) false = false := by
          rcases h3 with h3 | h3
          · rw [h3]; exact hif
          · cases hx : listed.getD (ms.getD g.1 0) false with
            | false => rfl
            | true => have := path_listed hdn _ _ _ h3 hx; rw [hif] at this; cases this
        rw [hk _ hlt] at hn
        have := of_decide_eq_false hn
        omega
      · omega
  omega
theorem allListedC {l : List Oper} (hB : ∀ (i : Nat) o, l[i]? = some o → ∀ e ∈ o.after, Region.binds .any e = true → e.on < i) {listed : Array Bool} (hsz : listed.size = l.length) (hr : Region.ready .any l.toArray listed = []) :
    ∀ i, i < l.length → listed.getD i false = true := by
  intro i
  induction i using Nat.strongRecOn with
  | _ i ih =>
    intro hi
    cases hl : listed.getD i false with
    | true => rfl
    | false =>
      have hj : i ∈ Region.ready .any l.toArray listed := by
        rw [mem_ready]
        refine ⟨?_, l[i], by simp [hi], fun e he hbd => ih e.on (hB i _ (List.getElem?_eq_getElem hi) e he hbd) ?_⟩
        · have : i < listed.size := by omega
          simpa [this] using hl
        · have := hB i _ (List.getElem?_eq_getElem hi) e he hbd; omega
      rw [hr] at hj; cases hj
def tailC (l : List Oper) (m : Nat) : Bool :=
  (List.range l.length).all (fun i => (List.range l.length).all fun j => i == j || (match l[i]?, l[j]? with | some a, some b => a.dst.isNone || !(a.dst == b.dst) | _, _ => true)) &&
  (List.range l.length).all (fun i => match l[i]? with | some o => o.after.all fun e => !Region.binds .any e || decide (e.on < i) | none => true) &&
  decide (m < l.length) &&
  (List.range m).all (fun j => (List.range (m + 1)).any fun k => decide (j < k) && edgeB l k j) &&
  (List.range l.length).all (fun i => decide (i ≤ m) || edgeB l i (i - 1))
theorem tailC_spec {l : List Oper} {m : Nat} (h : tailC l m = true) :
    (∀ (i j : Nat) a b, l[i]? = some a → l[j]? = some b → i ≠ j → a.dst.isNone = true ∨ a.dst ≠ b.dst) ∧ (∀ (i : Nat) o, l[i]? = some o → ∀ e ∈ o.after, Region.binds .any e = true → e.on < i) ∧ m < l.length ∧
    (∀ j, j < m → ∃ k, j < k ∧ k ≤ m ∧ edgeB l k j = true) ∧ (∀ i, m < i → i < l.length → edgeB l i (i - 1) = true) := by
  simp only [tailC, Bool.and_eq_true, List.all_eq_true, List.mem_range, decide_eq_true_eq] at h
  obtain ⟨⟨⟨⟨h1, h2⟩, h3⟩, h4⟩, h5⟩ := h
  refine ⟨fun i j a b hi hj hne => ?_, fun i o hi e he hbd => ?_, h3, fun j hj => ?_, fun i h h' => ?_⟩
  · have := h1 i (List.getElem?_eq_some_iff.1 hi).1 j (List.getElem?_eq_some_iff.1 hj).1
    simp only [hi, hj, Bool.or_eq_true, beq_iff_eq, Bool.not_eq_true', beq_eq_false_iff_ne] at this
    rcases this with h | h | h
    · exact absurd h hne
    · exact .inl h
    · exact .inr h
  · have := h2 i (List.getElem?_eq_some_iff.1 hi).1
    simp only [hi, Array.all_eq_true_iff_forall_mem, Bool.or_eq_true, Bool.not_eq_true', decide_eq_true_eq] at this
    rcases this e he with h9 | h9
    · rw [hbd] at h9; cases h9
    · exact h9
  · have := h4 j hj
    simp only [List.any_eq_true, List.mem_range, Bool.and_eq_true, decide_eq_true_eq] at this
    obtain ⟨k, h6, h7, h8⟩ := this
    exact ⟨k, h7, by omega, h8⟩
  · have := h5 i h'
    simp only [Bool.or_eq_true, decide_eq_true_eq] at this
    rcases this with h9 | h9
    · omega
    · exact h9
theorem tail_anyC {l : List Oper} {m : Nat} {Q : Exit → Act → World → Prop} (hlt : ∀ (i : Nat) o, l[i]? = some o → ∀ e ∈ o.after, Region.binds .any e = true → e.on < i) (hchain : ∀ i, m < i → i < l.length → edgeB l i (i - 1) = true) :
    ∀ (fuel k : Nat) (listed : Array Bool) (a : Act) (w : World), m ≤ k → l.length - k ≤ fuel → listed.size = l.length → (∀ j, j < k → j < l.length → listed.getD j false = true) → (∀ j, k ≤ j → listed.getD j false = false) →
      wpList Tryz.prog l.toArray Q (l.drop k) a w → wpAny Tryz.prog .any l.toArray Q fuel listed a w := by
  intro fuel
  induction fuel with
  | zero =>
    intro k listed a w hm hf hsz h1 h2 hx
    have hall : ∀ i, i < l.length → listed.getD i false = true := fun i hi => h1 i (by omega) hi
    rw [List.drop_of_length_le (by omega)] at hx
    exact ⟨ready_nil hall, hx⟩
  | succ fuel ih =>
    intro k listed a w hm hf hsz h1 h2 hx
    rcases Nat.lt_or_ge k l.length with hk | hk
    · refine ⟨fun hr => ?_, fun i hi => ?_⟩
      · exfalso
        have hj : k ∈ Region.ready .any l.toArray listed := by
          rw [mem_ready]
          have hkf := h2 k (Nat.le_refl _)
          have hks : k < listed.size := by omega
          refine ⟨by simpa [hks] using hkf, l[k], by simp [hk], fun e he hbd => ?_⟩
          have := hlt k _ (List.getElem?_eq_getElem hk) e he hbd
          exact h1 _ this (by omega)
        rw [hr] at hj; cases hj
      · rw [mem_ready] at hi
        obtain ⟨hun, o, ho, hdep⟩ := hi
        have ho' : l[i]? = some o := by simpa using ho
        have hil : i < l.length := (List.getElem?_eq_some_iff.1 ho').1
        have hif : listed.getD i false = false := by
          have : i < listed.size := by omega
          simpa [this] using hun
        have hik : i = k := by
          rcases Nat.lt_or_ge i k with h | h
          · rw [h1 i h hil] at hif; cases hif
          · rcases Nat.eq_or_lt_of_le h with h | h
            · exact h.symm
            · exfalso
              obtain ⟨o2, ho2, e, he, h6, h7⟩ := edgeB_spec (hchain i (by omega) hil)
              rw [ho'] at ho2; cases ho2
              have := hdep e he h7
              rw [h6, h2 (i - 1) (by omega)] at this
              cases this
        subst hik
        have hset : ∀ j, j ≠ i → (listed.setIfInBounds i true).getD j false = listed.getD j false := fun j hj => getD_set_ne false (Ne.symm hj)
        have hseti : (listed.setIfInBounds i true).getD i false = true := by
          have : i < listed.size := by omega
          simp [this]
        rw [List.drop_eq_getElem_cons hil] at hx
        have hoi : l[i] = o := by have := ho'; rw [List.getElem?_eq_getElem hil] at this; cases this; rfl
        rw [hoi] at hx
        have hnext : ∀ a' w', wpList Tryz.prog l.toArray Q (l.drop (i + 1)) a' w' → wpAny Tryz.prog .any l.toArray Q fuel (listed.setIfInBounds i true) a' w' := fun a' w' h =>
          ih (i + 1) _ a' w' (by omega) (by omega) (by simpa using hsz) (fun j hj hjl => by
            by_cases hji : j = i
            · subst hji; exact hseti
            · rw [hset j hji]; exact h1 j (by omega) hjl) (fun j hj => by rw [hset j (by omega)]; exact h2 j (by omega)) h
        unfold wpOp
        simp only [List.getElem?_toArray, ho']
        unfold wpList at hx
        split
        · rename_i hw
          simp only [hw, if_true] at hx
          exact hx.imp (Oper.wp_mono fun a' w' h => hnext a' w' h) id
        · rename_i hw
          simp only [hw] at hx
          exact hnext _ _ hx
    · have hall : ∀ i, i < l.length → listed.getD i false = true := fun i hi => h1 i (by omega) hi
      rw [List.drop_of_length_le (by omega)] at hx
      exact wpAny_end hall hx _
theorem rely_tailI {l : List Oper} {φ : List (Value → World → Prop)} {W : World} {K : World → World → Prop} {I : List Value → World → Prop} {ms : List Nat} {gs : List Stg} {a0 : Act} {Q : Exit → Act → World → Prop} (hK : KOk K) (hms : ms.all (fun k => decide (k < φ.length)) = true) (hnd : ms.Nodup) (hgs : gs.length = φ.length) (hG : stagesB l ms 0 gs = true) (hI9 : ∀ vs w w', I vs w → Below w.heap.size w w' → I vs w') (hB : tailC l φ.length = true) (hD : dstI ms a0.tmps.size 0 (l.take φ.length) = true)
    (hmono : ∀ f ∈ φ, ∀ v w w', f v w → Below w.heap.size w w' → f v w') (hmonoK : ∀ (i : Nat) f, φ[i]? = some f → lateB ms (gs.getD i none) = false → ∀ v w w', f v w → K w w' → f v w') (hstep : DutiesRI l φ W K I ms a0 0 l φ gs)
    (hend : ∀ vs w, K W w → owed vs w φ 0 → I (ms.map vs) w → wpList Tryz.prog l.toArray Q (l.drop φ.length) (puts vs (l.take φ.length) 0 a0) w) :
    ∀ (fuel : Nat) (listed : Array Bool) (a : Act) (w : World), ((List.range l.length).filter fun j => !listed.getD j false).length ≤ fuel → listed.size = l.length →
      (∀ j, φ.length ≤ j → listed.getD j false = false) → (∀ (i : Nat) o, l[i]? = some o → listed.getD i false = true → ∀ e ∈ o.after, Region.binds .any e = true → listed.getD e.on false = true) → RII l φ W K I ms a0 listed a w → wpAny Tryz.prog .any l.toArray Q fuel listed a w := by
  obtain ⟨hne, hlt, hm1, htail, hchain⟩ := tailC_spec hB
  have fin : ∀ (listed : Array Bool) (a : Act) (w : World), (∀ i, i < φ.length → listed.getD i false = true) → RII l φ W K I ms a0 listed a w → wpList Tryz.prog l.toArray Q (l.drop φ.length) a w := by
    intro listed a w hall hI
    obtain ⟨hb, ⟨s, hs1, hs2, hs3⟩, hd, hs, hout, hf⟩ := hI
    have hsx : s = ms.length := by
      rcases Nat.lt_or_ge s ms.length with h | h
      · have := hs2 s h
        have hm9 : ms.getD s 0 < φ.length := by
          have := List.all_eq_true.1 hms (ms.getD s 0) (by rw [List.getD_eq_getElem?_getD, List.getElem?_eq_getElem h]; exact List.getElem_mem h)
          exact of_decide_eq_true this
        rw [hall _ hm9] at this
        simp at this
      · omega
    subst hsx
    rw [List.take_length] at hs3
    have hv : ∀ (i : Nat) o f, l[i]? = some o → φ[i]? = some f → f (slot a o) w := fun i o f h1 h2 => hf i o f h1 h2 (hall i (List.getElem?_eq_some_iff.1 h2).1)
    have e := puts_eq (fun i => match l[i]? with | some o => slot a o | none => undef) a (l.take φ.length) 0 a0 hd hs hout (fun i o d h1 h2 => by
      have h1' : l[i]? = some o := by rw [List.getElem?_take] at h1; split at h1; exact h1; cases h1
      simp [h1', slot, h2])
    rw [e]
    refine hend _ w hb (owed_of φ 0 fun i f hi => ?_) (by
      have e9 : ms.map (valR l a.eval) = ms.map (fun i => match l[i]? with | some o => slot a o | none => undef) := List.map_congr_left fun j _ => by unfold valR; split <;> rfl
      rw [← e9]; exact hs3)
    have hi' : i < l.length := by have := (List.getElem?_eq_some_iff.1 hi).1; omega
    simp only [Nat.zero_add, List.getElem?_eq_getElem hi']
    exact hv i _ f (List.getElem?_eq_getElem hi') hi
  intro fuel
  induction fuel with
  | zero =>
    intro listed a w hc hsz ht hdn hI
    exfalso
    have : φ.length ∈ (List.range l.length).filter fun j => !listed.getD j false := by
      rw [List.mem_filter, ht _ (Nat.le_refl _)]; simp [hm1]
    have := List.length_pos_of_mem this
    omega
  | succ fuel ih =>
    intro listed a w hc hsz ht hdn hI
    refine ⟨fun hr => absurd ((ht _ (Nat.le_refl _)).symm.trans (allListedC hlt hsz hr _ hm1)) (by decide), fun i hi => ?_⟩
    rw [mem_ready] at hi
    obtain ⟨hun, o, ho, hdep⟩ := hi
    have ho' : l[i]? = some o := by simpa using ho
    have hil : i < l.length := (List.getElem?_eq_some_iff.1 ho').1
    have hif : listed.getD i false = false := by
      have : i < listed.size := by omega
      simpa [this] using hun
    have hset : ∀ j, j ≠ i → (listed.setIfInBounds i true).getD j false = listed.getD j false := fun j hj => getD_set_ne false (Ne.symm hj)
    have hseti : (listed.setIfInBounds i true).getD i false = true := by
      have : i < listed.size := by omega
      simp [this]
    rcases Nat.lt_or_ge i φ.length with him | him
    · -- a duty
      have hfi : φ[i]? = some φ[i] := List.getElem?_eq_getElem him
      have hcnt : ((List.range l.length).filter fun j => !(listed.setIfInBounds i true).getD j false).length ≤ fuel := by
        have := filter_lt (fun j => !listed.getD j false) (fun j => !(listed.setIfInBounds i true).getD j false) i (by simp only [hif]; rfl) (by simp only [hseti]; rfl) (fun j hj => by
          by_cases hji : j = i
          · subst hji; simp only [hif]; rfl
          · simp only [hset j hji] at hj; exact hj) (List.range l.length) (by simpa using hil)
        omega
      have htl : ∀ j, φ.length ≤ j → (listed.setIfInBounds i true).getD j false = false := fun j h => by rw [hset _ (by omega)]; exact ht j h
      have hdn' : ∀ (j : Nat) oj, l[j]? = some oj → (listed.setIfInBounds i true).getD j false = true → ∀ e ∈ oj.after, Region.binds .any e = true → (listed.setIfInBounds i true).getD e.on false = true := fun j oj hj hl e he hbd => by
        by_cases hei : e.on = i
        · rw [hei]; exact hseti
        · rw [hset _ hei]
          by_cases hji : j = i
          · subst hji; rw [ho'] at hj; cases hj; exact hdep e he hbd
          · rw [hset j hji] at hl; exact hdn j oj hj hl e he hbd
      obtain ⟨hb, ⟨s, hs1, hs2, hs3⟩, hd, hs, hout, hf⟩ := hI
      have hdeps : depsOf l φ a w o.after.toList := depsOf_of _ fun e he hbd => by
        unfold dep1
        split
        · rename_i oj f h1 h2
          exact hf e.on oj f h1 h2 (hdep e (by simpa using he) hbd)
        · trivial
      have hgi : gs[i]? = some (gs[i]'(by omega)) := List.getElem?_eq_getElem _
      generalize gs[i]'(by omega) = g at hgi
      obtain ⟨hg1, hg2⟩ := stages_get hG i g hgi
      rw [Nat.zero_add] at hg1 hg2
      have hat : atI I l ms a.eval w g := by
        cases g with
        | none => trivial
        | some q =>
          have := stage_is hdn ho' hdep hif (hg1 q rfl) hs1 hs2
          subst this
          exact hs3
      have hduty := duty_ofI (Q := Q) (duties_getI hstep i o φ[i] g ho' hfi hgi)
      rw [Nat.zero_add] at hduty
      obtain ⟨hw1, hw2⟩ := hduty a w hb hat (fun t h => hout t h) hdeps
      have hvne : ∀ v j, j ≠ i → valR l (a.put o.dst v).eval j = valR l a.eval j := fun v j hj => by
        unfold valR
        cases hlj : l[j]? with
        | none => rfl
        | some oj => exact slot_put_ne v (hne j i oj o hlj ho' hj)
      have hd1 := dstI_get hD i o (by rw [List.getElem?_take, if_pos him]; exact ho')
      rw [Nat.zero_add] at hd1
      have hveq : ∀ v, (ms.contains i = true → o.dst = none → v = undef) → valR l (a.put o.dst v).eval i = v := fun v hun => by
        unfold valR
        rw [ho']
        show slotR _ o = v
        unfold slotR
        cases hdo : o.dst with
        | none =>
          rw [hdo] at hd1
          exact (hun hd1 hdo).symm
        | some d =>
          have hd2 : d < a0.tmps.size := by simpa [hdo] using hd1
          have : d < a.tmps.size := by rw [hs]; exact hd2
          simp [eval_tmp, Act.put, this]
      have hnew : ∀ v w', (ms.contains i = true → o.dst = none → v = undef) → stI I l ms a.eval i φ[i] v w' → stepI K ms i w w' → RII l φ W K I ms a0 (listed.setIfInBounds i true) (a.put o.dst v) w' := fun v w' hun hst hg => by
        have hgK : K w w' := by
          unfold stepI at hg
          cases hc9 : ms.contains i <;> rw [hc9] at hg
          · exact hK.below hg
          · exact hg
        have hφ : φ[i] v w' := by
          unfold stI at hst
          cases hc9 : ms.contains i <;> rw [hc9] at hst
          · exact hst
          · exact hst.1
        refine ⟨hK.trans hb hgK, ?_, by rw [defers_put]; exact hd, by rw [size_put]; exact hs, fun t h => ?_, fun j oj f h1 h2 h3 => ?_⟩
        · cases hc9 : ms.contains i with
          | false =>
            have hni : ∀ j ∈ ms, j ≠ i := fun j hj e9 => by
              have : ms.contains i = true := by simpa using (e9 ▸ hj)
              rw [hc9] at this; cases this
            refine ⟨s, hs1, fun k hk => ?_, ?_⟩
            · rw [hset _ (hni _ (by rw [List.getD_eq_getElem?_getD, List.getElem?_eq_getElem hk]; exact List.getElem_mem hk))]; exact hs2 k hk
            · have e9 : (ms.take s).map (valR l (a.put o.dst v).eval) = (ms.take s).map (valR l a.eval) := List.map_congr_left fun j hj => hvne v j (hni j (List.mem_of_mem_take hj))
              rw [e9]
              have hg9 : Below w.heap.size w w' := by unfold stepI at hg; rw [hc9] at hg; exact hg
              exact hI9 _ _ _ hs3 hg9
          | true =>
            obtain ⟨q, rfl, hq⟩ := hg2 hc9
            have hsq := stage_is hdn ho' hdep hif (hg1 q rfl) hs1 hs2
            have hmi : i ∈ ms := by simpa using hc9
            have hlt9 : ms.idxOf i < ms.length := List.idxOf_lt_length_iff.2 hmi
            have hget : ms[ms.idxOf i] = i := List.getElem_idxOf hlt9
            have hgetD : ms.getD (ms.idxOf i) 0 = i := by rw [List.getD_eq_getElem?_getD, List.getElem?_eq_getElem hlt9]; exact hget
            have hsi : s = ms.idxOf i := by rw [hsq, hq]
            refine ⟨s + 1, by omega, fun k hk => ?_, ?_⟩
            · by_cases hks : k = s
              · rw [hks, hsi, hgetD, hseti]; simp
              · have hne9 : ms.getD k 0 ≠ i := fun e9 => hks (by
                  rw [hsi, ← e9, List.getD_eq_getElem?_getD, List.getElem?_eq_getElem hk]
                  exact (hnd.idxOf_getElem k hk).symm)
                rw [hset _ hne9, hs2 k hk]
                exact decide_eq_decide.2 (by omega)
            · unfold stI at hst
              rw [hc9] at hst
              have e9 : ms.take (s + 1) = ms.take s ++ [i] := by rw [hsi, List.take_add_one, List.getElem?_eq_getElem hlt9, hget]; rfl
              rw [e9, List.map_append, List.map_cons, List.map_nil, hveq v hun]
              have e8 : (ms.take s).map (valR l (a.put o.dst v).eval) = (ms.take s).map (valR l a.eval) := List.map_congr_left fun j hj => hvne v j (fun e7 => by
                obtain ⟨n9, hn9, hn8⟩ := List.mem_iff_getElem.1 hj
                rw [List.length_take] at hn9
                rw [List.getElem_take] at hn8
                have h8 := hnd.idxOf_getElem n9 (by omega)
                rw [hn8, e7] at h8
                omega)
              rw [e8, hsi]
              exact hst.2
        · rw [Act.eval_put (x := .tmp t) (fun d hd' he => by
            cases he
            simp only [outB, List.all_eq_true] at h
            have hmem : o ∈ l.take φ.length := by
              rw [List.mem_iff_getElem?]; exact ⟨i, by rw [List.getElem?_take, if_pos him]; exact ho'⟩
            have := h o hmem
            simp [hd'] at this)]
          exact hout t h
        · by_cases hji : j = i
          · subst hji
            rw [ho'] at h1; cases h1
            rw [hfi] at h2; cases h2
            unfold slot
            cases hdo : o.dst with
            | none =>
              rw [hdo] at hd1
              have := hun hd1 hdo
              subst this
              exact hφ
            | some d =>
              have hd2 : d < a0.tmps.size := by simpa [hdo] using hd1
              have e : (a.put (some d) v).eval (.tmp d) = v := by
                have : d < a.tmps.size := by rw [hs]; exact hd2
                simp [eval_tmp, Act.put, this]
              simp only [e]
              exact hφ
          · rw [slot_put_ne v (hne j i oj o h1 ho' hji)]
            have hjl : listed.getD j false = true := by rw [← hset j hji]; exact h3
            have hfj := hf j oj f h1 h2 hjl
            cases hc8 : ms.contains i with
            | false =>
              have hg9 : Below w.heap.size w w' := by unfold stepI at hg; rw [hc8] at hg; exact hg
              exact hmono f (List.mem_of_getElem? h2) _ _ _ hfj hg9
            | true =>
              refine hmonoK j f h2 ?_ _ _ _ hfj hgK
              cases hlt8 : lateB ms (gs.getD j none) with
              | false => rfl
              | true =>
                exfalso
                have hjl8 : j < gs.length := by have := (List.getElem?_eq_some_iff.1 h2).1; omega
                have hgj : gs[j]? = some (gs.getD j none) := by rw [List.getD_eq_getElem?_getD, List.getElem?_eq_getElem hjl8]; rfl
                obtain ⟨hj1, -⟩ := stages_get hG j _ hgj
                rw [Nat.zero_add] at hj1
                obtain ⟨h7, h8⟩ := late_listed hdn hj1 hlt8 hjl
                rw [hs2 _ (by omega)] at h8
                have h9 := of_decide_eq_true h8
                obtain ⟨q, rfl, hq⟩ := hg2 hc8
                have hsq := stage_is hdn ho' hdep hif (hg1 q rfl) hs1 hs2
                have hmi : i ∈ ms := by simpa using hc8
                have hlt9 : ms.idxOf i < ms.length := List.idxOf_lt_length_iff.2 hmi
                omega
      unfold wpOp
      simp only [List.getElem?_toArray, ho']
      split
      · rename_i hw
        refine .inl (Oper.wp_mono (fun a' w' h => ?_) (hw1 hw))
        obtain ⟨v, rfl, hun, hφ, hg⟩ := h
        exact ih _ _ _ hcnt (by simpa using hsz) htl hdn' (hnew v w' hun hφ hg)
      · rename_i hw
        exact ih _ _ _ hcnt (by simpa using hsz) htl hdn' (hnew undef w (fun _ _ => rfl) (hw2 (by simpa using hw)) (by unfold stepI; cases ms.contains i; exact Below.refl _ _; exact hK.below (Below.refl _ _)))
    · -- the tail
      have hil' : i = φ.length := by
        rcases Nat.eq_or_lt_of_le him with h | h
        · exact h.symm
        · exfalso
          obtain ⟨o2, ho2, e, he, h6, h7⟩ := edgeB_spec (hchain i (by omega) hil)
          rw [ho'] at ho2; cases ho2
          have := hdep e he h7
          rw [h6, ht (i - 1) (by omega)] at this
          cases this
      have hallN : ∀ n j, φ.length - j = n → j < φ.length → listed.getD j false = true := by
        intro n
        induction n using Nat.strongRecOn with
        | _ n ih2 =>
          intro j hn hj
          obtain ⟨k, hk1, hk2, hke⟩ := htail j hj
          obtain ⟨o2, ho2, e, he, h6, h7⟩ := edgeB_spec hke
          rcases Nat.eq_or_lt_of_le hk2 with h | h
          · rw [h, ← hil', ho'] at ho2; cases ho2
            rw [← h6]; exact hdep e he h7
          · rw [← h6]; exact hdn k o2 ho2 (ih2 (φ.length - k) (by omega) k rfl h) e he h7
      have hall : ∀ j, j < φ.length → listed.getD j false = true := fun j hj => hallN _ j rfl hj
      have hx := fin listed a w hall hI
      have hcl : l.length - φ.length ≤ fuel + 1 := by
        have h9 : ((List.range l.length).filter fun j => decide (φ.length ≤ j)).length ≤ ((List.range l.length).filter fun j => !listed.getD j false).length := by
          rw [← List.countP_eq_length_filter, ← List.countP_eq_length_filter]
          refine List.countP_mono_left fun j _ h => ?_
          rw [decide_eq_true_eq] at h
          rw [ht j h]; rfl
        have h10 : ((List.range l.length).filter fun j => decide (φ.length ≤ j)).length = l.length - φ.length := countGe _ _
        omega
      have hz := tail_anyC (Q := Q) hlt hchain (fuel + 1) φ.length listed a w (Nat.le_refl _) hcl hsz (fun j hj _ => hall j hj) ht hx
      exact hz.2 i (by rw [mem_ready]; exact ⟨hun, o, ho, hdep⟩)
theorem wp_reliesI {l : List Oper} {id : Nat} {W : World} {a0 : Act} {Q : Exit → Act → World → Prop} {K : World → World → Prop} (hK : KOk K) (I : List Value → World → Prop) (ms : List Nat) (gs : List Stg) (φ : List (Value → World → Prop)) (hms : ms.all (fun k => decide (k < φ.length)) = true) (hnd : ms.Nodup) (hgs : gs.length = φ.length) (hG : stagesB l ms 0 gs = true) (hB : tailC l φ.length = true) (hD : dstI ms a0.tmps.size 0 (l.take φ.length) = true)
    (hI0 : I [] W) (hI9 : ∀ vs w w', I vs w → Below w.heap.size w w' → I vs w') (hmono : ∀ f ∈ φ, ∀ v w w', f v w → Below w.heap.size w w' → f v w') (hmonoK : ∀ (i : Nat) f, φ[i]? = some f → lateB ms (gs.getD i none) = false → ∀ v w w', f v w → K w w' → f v w') (hstep : DutiesRI l φ W K I ms a0 0 l φ gs)
    (hend : ∀ vs w, K W w → owed vs w φ 0 → I (ms.map vs) w → wpList Tryz.prog l.toArray Q (asg vs (l.take φ.length) 0 ++ l.drop φ.length) a0 w) : (Code.region id l.toArray true).wp Tryz.prog Q a0 W := by
  refine wp_region_any (by kernel_rfl) (rely_tailI hK hms hnd hgs hG hI9 hB hD hmono hmonoK hstep (fun vs w h1 h2 h3 => wpList_asg vs _ _ _ (hend vs w h1 h2 h3)) _ _ _ _ ?_ (by simp) (fun j _ => by rw [Array.getD_eq_getD_getElem?, Array.getElem?_replicate]; split <;> rfl) (fun i o _ h => by
    exfalso
    rw [Array.getD_eq_getD_getElem?, Array.getElem?_replicate] at h
    split at h <;> simp at h) ⟨hK.below (Below.refl _ _).drew, ⟨0, Nat.zero_le _, fun k _ => by
      rw [Array.getD_eq_getD_getElem?, Array.getElem?_replicate]; split <;> simp, hI9 _ _ _ hI0 (Below.refl _ _).drew⟩, rfl, rfl, fun _ _ => rfl, fun i o f _ _ h => by
    exfalso
    rw [Array.getD_eq_getD_getElem?, Array.getElem?_replicate] at h
    split at h <;> simp at h⟩)
  have := List.length_filter_le (fun j => !(Array.replicate l.toArray.size false).getD j false) (List.range l.length)
  simpa using this
end Go.Proofs.YtalnbddkhojjbaaGreatDoor
namespace Go.Proofs.YtalnbddkhojjbaaGreatDoor
open Go.RowKit

def upB (d : Nat → Bool) (i : Nat) : Nat → Bool := fun j => if j = i then true else d j
def upV (u : Nat → Value) (i : Nat) (v : Value) : Nat → Value := fun j => if j = i then v else u j
def clsU (l : List Oper) (d : Nat → Bool) : Prop := ∀ (k : Nat) ok, l[k]? = some ok → d k = true → ∀ e ∈ ok.after, Region.binds .any e = true → d e.on = true
structure RdyU (l : List Oper) (d : Nat → Bool) (i : Nat) : Prop where
  no : d i = false
  dep : ∀ o, l[i]? = some o → ∀ e ∈ o.after, Region.binds .any e = true → d e.on = true
  cls : clsU l d
theorem RdyU.yes {l : List Oper} {d : Nat → Bool} {i : Nat} (h : RdyU l d i) (j : Nat) (hE : edgeB l i j = true) : d j = true := by
  obtain ⟨o, ho, e, he, h1, h2⟩ := edgeB_spec hE
  rw [← h1]; exact h.dep o ho e he h2
theorem clsU.path {l : List Oper} {d : Nat → Bool} (h : clsU l d) : ∀ (p : List Nat) (k j : Nat), pathB l k p j = true → d k = true → d j = true
  | [], k, j, hp, hk => by
    obtain ⟨o, ho, e, he, h1, h2⟩ := edgeB_spec (by simpa [pathB] using hp)
    rw [← h1]; exact h k o ho hk e he h2
  | x :: r, k, j, hp, hk => by
    simp only [pathB, Bool.and_eq_true] at hp
    obtain ⟨o, ho, e, he, h1, h2⟩ := edgeB_spec hp.1
    exact h.path r x j hp.2 (by rw [← h1]; exact h k o ho hk e he h2)
theorem RdyU.later {l : List Oper} {d : Nat → Bool} {i : Nat} (h : RdyU l d i) (p : List Nat) (k : Nat) (hp : pathB l k p i = true) : d k = false := by
  cases hk : d k with
  | false => rfl
  | true => have := h.cls.path p k i hp hk; rw [h.no] at this; cases this
def stU (I : (Nat → Bool) → (Nat → Value) → World → Prop) (l : List Oper) (ms : List Nat) (ρ : Operand → Value) (d : Nat → Bool) (i : Nat) (f : Value → World → Prop) : Value → World → Prop := fun v x => bif ms.contains i then f v x ∧ I (upB d i) (upV (valR l ρ) i v) x else f v x
def DutyU (l : List Oper) (φ : List (Value → World → Prop)) (W : World) (K : World → World → Prop) (I : (Nat → Bool) → (Nat → Value) → World → Prop) (ms : List Nat) (a0 : Act) (Q : Exit → Act → World → Prop) (i : Nat) (o : Oper) (f : Value → World → Prop) : Prop :=
  ∀ a w d, K W w → I d (valR l a.eval) w → RdyU l d i → (∀ t, outB (l.take φ.length) t = true → a.eval (.tmp t) = a0.eval (.tmp t)) → depsOf l φ a w o.after.toList →
    (Region.wanted o (yielded l.toArray a.tmps) = true → o.wp Tryz.prog a w (fun a' w' => ∃ v, a' = a.put o.dst v ∧ (ms.contains i = true → o.dst = none → v = undef) ∧ stU I l ms a.eval d i f v w' ∧ stepI K ms i w w') Q) ∧
    (Region.wanted o (yielded l.toArray a.tmps) = false → stU I l ms a.eval d i f undef w)
def DutyRU (l : List Oper) (φ : List (Value → World → Prop)) (W : World) (K : World → World → Prop) (I : (Nat → Bool) → (Nat → Value) → World → Prop) (ms : List Nat) (a0 : Act) (i : Nat) (o : Oper) (f : Value → World → Prop) : Prop :=
  ∀ (ρ : Operand → Value) (x : World) (d : Nat → Bool), K W x → I d (valR l ρ) x → RdyU l d i → (∀ v, ρ (.const v) = v) → (∀ g, ρ (.global g) = .pointer (some ⟨g, 0, none⟩)) → (∀ k, ρ (.func k) = .func (.func k) #[] #[]) →
    (∀ t, outB (l.take φ.length) t = true → ρ (.tmp t) = a0.eval (.tmp t)) → depsR l φ ρ x o.after.toList → guardR l ρ o (bif ms.contains i then okUponD o K (stU I l ms ρ d i f) x ((execOp ρ o).run Tryz.prog x) else okUpon f x ((execOp ρ o).run Tryz.prog x)) (stU I l ms ρ d i f undef x)
def DutiesRU (l : List Oper) (φ : List (Value → World → Prop)) (W : World) (K : World → World → Prop) (I : (Nat → Bool) → (Nat → Value) → World → Prop) (ms : List Nat) (a0 : Act) : Nat → List Oper → List (Value → World → Prop) → Prop
  | i, o :: r, f :: g => DutyRU l φ W K I ms a0 i o f ∧ DutiesRU l φ W K I ms a0 (i + 1) r g
  | _, _, _ => True
theorem duties_getU {l : List Oper} {φ : List (Value → World → Prop)} {W : World} {K : World → World → Prop} {I : (Nat → Bool) → (Nat → Value) → World → Prop} {ms : List Nat} {a0 : Act} : ∀ {k : Nat} {r : List Oper} {g : List (Value → World → Prop)}, DutiesRU l φ W K I ms a0 k r g →
    ∀ (i : Nat) o f, r[i]? = some o → g[i]? = some f → DutyRU l φ W K I ms a0 (k + i) o f
  | _, [], _, _, _, _, _, h, _ => by simp at h
  | _, _ :: _, [], _, _, _, _, _, h => by simp at h
  | k, o :: r, f :: g, h, 0, o', f', h1, h2 => by simp at h1 h2; subst h1; subst h2; exact h.1
  | k, o :: r, f :: g, h, i + 1, o', f', h1, h2 => by
    have := duties_getU h.2 i o' f' (by simpa using h1) (by simpa using h2)
    rwa [show k + 1 + i = k + (i + 1) by omega] at this
theorem duty_ofU {l : List Oper} {φ : List (Value → World → Prop)} {W : World} {K : World → World → Prop} {I : (Nat → Bool) → (Nat → Value) → World → Prop} {ms : List Nat} {a0 : Act} {i : Nat} {o : Oper} {f : Value → World → Prop} {Q : Exit → Act → World → Prop} (h : DutyRU l φ W K I ms a0 i o f) : DutyU l φ W K I ms a0 Q i o f := by
  intro a w d hk hb hr ho hd
  have hx := h a.eval w d hk hb hr (fun _ => rfl) (fun _ => rfl) (fun _ => rfl) ho (depsR_of _ hd)
  have run : (bif ms.contains i then okUponD o K (stU I l ms a.eval d i f) w ((execOp a.eval o).run Tryz.prog w) else okUpon f w ((execOp a.eval o).run Tryz.prog w)) → o.wp Tryz.prog a w (fun a' w' => ∃ v, a' = a.put o.dst v ∧ (ms.contains i = true → o.dst = none → v = undef) ∧ stU I l ms a.eval d i f v w' ∧ stepI K ms i w w') Q := by
    intro hk
    unfold Oper.wp stepI
    generalize (execOp a.eval o).run Tryz.prog w = r at hk
    cases hq : ms.contains i <;> rw [hq] at hk
    · have e : ∀ v w', f v w' → stU I l ms a.eval d i f v w' := fun v w' hf => by unfold stU; rw [hq]; exact hf
      cases r with
      | ok n x' =>
        cases n <;> simp only [okUpon, cond_false] at hk
        case value v => exact ⟨v, rfl, (fun h => by cases h), e _ _ hk.1, hk.2⟩
        case enter fn args =>
          obtain ⟨rfl, hc⟩ := hk
          exact hc.mono fun e1 w' ⟨v, he, hf, hb⟩ => by subst he; exact ⟨v, rfl, (fun h => by cases h), e _ _ hf, hb⟩
      | halt e x' => simp only [okUpon, cond_false] at hk
    · rw [cond_true] at hk
      unfold okUponD at hk
      split at hk
      · rename_i d9 hd9
        cases r with
        | ok n x' =>
          cases n <;> simp only [okUponK] at hk
          case value v => exact ⟨v, rfl, (fun _ h => by rw [hd9] at h; cases h), hk.1, hk.2⟩
          case enter fn args =>
            obtain ⟨rfl, hc⟩ := hk
            exact hc.mono fun e w' ⟨v, he, hf, hb⟩ => by subst he; exact ⟨v, rfl, (fun _ h => by rw [hd9] at h; cases h), hf, hb⟩
        | halt e x' => simp only [okUponK] at hk
      · cases r with
        | ok n x' =>
          cases n <;> simp only [okSkip] at hk
          case skip => exact ⟨undef, rfl, fun _ _ => rfl, hk.1, hk.2⟩
        | halt e x' => simp only [okSkip] at hk
  unfold guardR at hx
  unfold Region.wanted
  cases hg : o.guard with
  | none => simp only [hg] at hx ⊢; exact ⟨fun _ => run hx, fun h => by cases h⟩
  | some q =>
    obtain ⟨j, b⟩ := q
    simp only [hg] at hx ⊢
    rw [yieldR_eq]
    exact ⟨fun h => run (hx.1 (by simpa using h)), fun h => hx.2 (by simpa using h)⟩
def RIU (l : List Oper) (φ : List (Value → World → Prop)) (W : World) (K : World → World → Prop) (I : (Nat → Bool) → (Nat → Value) → World → Prop) (a0 : Act) (listed : Array Bool) (a : Act) (w : World) : Prop :=
  K W w ∧ I (fun j => listed.getD j false) (valR l a.eval) w ∧ a.defers = a0.defers ∧ a.tmps.size = a0.tmps.size ∧ (∀ t, outB (l.take φ.length) t = true → a.eval (.tmp t) = a0.eval (.tmp t)) ∧
  ∀ (i : Nat) o f, l[i]? = some o → φ[i]? = some f → listed.getD i false = true → f (slot a o) w
def fullC (l : List Oper) : Bool :=
  (List.range l.length).all (fun i => (List.range l.length).all fun j => i == j || (match l[i]?, l[j]? with | some a, some b => a.dst.isNone || !(a.dst == b.dst) | _, _ => true)) &&
  (List.range l.length).all (fun i => match l[i]? with | some o => o.after.all fun e => !Region.binds .any e || decide (e.on < i) | none => true)
theorem fullC_spec {l : List Oper} (h : fullC l = true) :
    (∀ (i j : Nat) a b, l[i]? = some a → l[j]? = some b → i ≠ j → a.dst.isNone = true ∨ a.dst ≠ b.dst) ∧ (∀ (i : Nat) o, l[i]? = some o → ∀ e ∈ o.after, Region.binds .any e = true → e.on < i) := by
  simp only [fullC, Bool.and_eq_true, List.all_eq_true, List.mem_range] at h
  obtain ⟨h1, h2⟩ := h
  refine ⟨fun i j a b hi hj hne => ?_, fun i o hi e he hbd => ?_⟩
  · have := h1 i (List.getElem?_eq_some_iff.1 hi).1 j (List.getElem?_eq_some_iff.1 hj).1
    simp only [hi, hj, Bool.or_eq_true, beq_iff_eq, Bool.not_eq_true', beq_eq_false_iff_ne] at this
    rcases this with h | h | h
    · exact absurd h hne
    · exact .inl h
    · exact .inr h
  · have := h2 i (List.getElem?_eq_some_iff.1 hi).1
    simp only [hi, Array.all_eq_true_iff_forall_mem, Bool.or_eq_true, Bool.not_eq_true', decide_eq_true_eq] at this
    rcases this e he with h9 | h9
    · rw [hbd] at h9; cases h9
    · exact h9
theorem rely_U {l : List Oper} {φ : List (Value → World → Prop)} {W : World} {K : World → World → Prop} {I : (Nat → Bool) → (Nat → Value) → World → Prop} {ms : List Nat} {a0 : Act} {Q : Exit → Act → World → Prop} (hK : KOk K) (hφ : φ.length = l.length) (hI9 : ∀ d u w w', I d u w → Below w.heap.size w w' → I d u w') (hIc : ∀ d d' u u' w, (∀ i ∈ ms, d i = d' i) → (∀ i ∈ ms, u i = u' i) → I d u w → I d' u' w) (hms : ms.all (fun k => decide (k < l.length)) = true) (hB : fullC l = true) (hD : dstI ms a0.tmps.size 0 (l.take φ.length) = true)
    (hmonoK : ∀ f ∈ φ, ∀ v w w', f v w → K w w' → f v w') (hstep : DutiesRU l φ W K I ms a0 0 l φ)
    (hend : ∀ vs w, K W w → owed vs w φ 0 → I (fun _ => true) vs w → Q .normal (puts vs l 0 a0) w) :
    ∀ (fuel : Nat) (listed : Array Bool) (a : Act) (w : World), ((List.range l.length).filter fun j => !listed.getD j false).length ≤ fuel → listed.size = l.length →
      (∀ (i : Nat) o, l[i]? = some o → listed.getD i false = true → ∀ e ∈ o.after, Region.binds .any e = true → listed.getD e.on false = true) → RIU l φ W K I a0 listed a w → wpAny Tryz.prog .any l.toArray Q fuel listed a w := by
  obtain ⟨hne, hlt⟩ := fullC_spec hB
  have htk : l.take φ.length = l := List.take_of_length_le (by omega)
  have fin : ∀ (listed : Array Bool) (a : Act) (w : World), (∀ i, i < l.length → listed.getD i false = true) → RIU l φ W K I a0 listed a w → Q .normal a w := by
    intro listed a w hall hI
    obtain ⟨hb, hs3, hd, hs, hout, hf⟩ := hI
    have hv : ∀ (i : Nat) o f, l[i]? = some o → φ[i]? = some f → f (slot a o) w := fun i o f h1 h2 => hf i o f h1 h2 (hall i (List.getElem?_eq_some_iff.1 h1).1)
    have e := puts_eq (fun i => match l[i]? with | some o => slot a o | none => undef) a l 0 a0 hd hs (by rw [htk] at hout; exact hout) (fun i o d h1 h2 => by simp [h1, slot, h2])
    rw [e]
    refine hend _ w hb (owed_of φ 0 fun i f hi => ?_) ?_
    · have hi' : i < l.length := by have := (List.getElem?_eq_some_iff.1 hi).1; omega
      simp only [Nat.zero_add, List.getElem?_eq_getElem hi']
      exact hv i _ f (List.getElem?_eq_getElem hi') hi
    · refine hIc _ _ _ _ w (fun i hi => ?_) (fun i hi => ?_) hs3
      · rcases Nat.lt_or_ge i l.length with h | h
        · exact hall i h
        · have := of_decide_eq_true (List.all_eq_true.1 hms i hi); omega
      · show valR l a.eval i = (match l[i]? with | some o => slot a o | none => undef)
        unfold valR
        cases l[i]? <;> rfl
  intro fuel
  induction fuel with
  | zero =>
    intro listed a w hc hsz hdn hI
    have hall : ∀ i, i < l.length → listed.getD i false = true := fun i hi => by
      cases hl : listed.getD i false with
      | true => rfl
      | false =>
        have : i ∈ (List.range l.length).filter fun j => !listed.getD j false := by rw [List.mem_filter, hl]; simp [hi]
        have := List.length_pos_of_mem this
        omega
    exact wpAny_end hall (fin listed a w hall hI) 0
  | succ fuel ih =>
    intro listed a w hc hsz hdn hI
    refine ⟨fun hr => fin listed a w (allListedC hlt hsz hr) hI, fun i hi => ?_⟩
    rw [mem_ready] at hi
    obtain ⟨hun, o, ho, hdep⟩ := hi
    have ho' : l[i]? = some o := by simpa using ho
    have hil : i < l.length := (List.getElem?_eq_some_iff.1 ho').1
    have him : i < φ.length := by omega
    have hif : listed.getD i false = false := by
      have : i < listed.size := by omega
      simpa [this] using hun
    have hset : ∀ j, j ≠ i → (listed.setIfInBounds i true).getD j false = listed.getD j false := fun j hj => getD_set_ne false (Ne.symm hj)
    have hseti : (listed.setIfInBounds i true).getD i false = true := by
      have : i < listed.size := by omega
      simp [this]
    have hfi : φ[i]? = some φ[i] := List.getElem?_eq_getElem him
    have hcnt : ((List.range l.length).filter fun j => !(listed.setIfInBounds i true).getD j false).length ≤ fuel := by
      have := filter_lt (fun j => !listed.getD j false) (fun j => !(listed.setIfInBounds i true).getD j false) i (by simp only [hif]; rfl) (by simp only [hseti]; rfl) (fun j hj => by
        by_cases hji : j = i
        · subst hji; simp only [hif]; rfl
        · simp only [hset j hji] at hj; exact hj) (List.range l.length) (by simpa using hil)
      omega
    have hdn' : ∀ (j : Nat) oj, l[j]? = some oj → (listed.setIfInBounds i true).getD j false = true → ∀ e ∈ oj.after, Region.binds .any e = true → (listed.setIfInBounds i true).getD e.on false = true := fun j oj hj hl e he hbd => by
      by_cases hei : e.on = i
      · rw [hei]; exact hseti
      · rw [hset _ hei]
        by_cases hji : j = i
        · subst hji; rw [ho'] at hj; cases hj; exact hdep e he hbd
        · rw [hset j hji] at hl; exact hdn j oj hj hl e he hbd
    obtain ⟨hb, hs3, hd, hs, hout, hf⟩ := hI
    have hdeps : depsOf l φ a w o.after.toList := depsOf_of _ fun e he hbd => by
      unfold dep1
      split
      · rename_i oj f h1 h2
        exact hf e.on oj f h1 h2 (hdep e (by simpa using he) hbd)
      · trivial
    have hrdy : RdyU l (fun j => listed.getD j false) i := ⟨hif, fun o9 ho9 e he hbd => by rw [ho'] at ho9; cases ho9; exact hdep e he hbd, fun k ok hk1 hk2 e he hbd => hdn k ok hk1 hk2 e he hbd⟩
    have hduty := duty_ofU (Q := Q) (duties_getU hstep i o φ[i] ho' hfi)
    rw [Nat.zero_add] at hduty
    obtain ⟨hw1, hw2⟩ := hduty a w _ hb hs3 hrdy (fun t h => hout t h) hdeps
    have hvne : ∀ v j, j ≠ i → valR l (a.put o.dst v).eval j = valR l a.eval j := fun v j hj => by
      unfold valR
      cases hlj : l[j]? with
      | none => rfl
      | some oj => exact slot_put_ne v (hne j i oj o hlj ho' hj)
    have hd1 := dstI_get hD i o (by rw [List.getElem?_take, if_pos him]; exact ho')
    rw [Nat.zero_add] at hd1
    have hveq : ∀ v, (ms.contains i = true → o.dst = none → v = undef) → valR l (a.put o.dst v).eval i = v := fun v hun => by
      unfold valR
      rw [ho']
      show slotR _ o = v
      unfold slotR
      cases hdo : o.dst with
      | none =>
        rw [hdo] at hd1
        exact (hun hd1 hdo).symm
      | some d =>
        have hd2 : d < a0.tmps.size := by simpa [hdo] using hd1
        have : d < a.tmps.size := by rw [hs]; exact hd2
        simp [eval_tmp, Act.put, this]
    have hnew : ∀ v w', (ms.contains i = true → o.dst = none → v = undef) → stU I l ms a.eval (fun j => listed.getD j false) i φ[i] v w' → stepI K ms i w w' → RIU l φ W K I a0 (listed.setIfInBounds i true) (a.put o.dst v) w' := fun v w' hun hst hg => by
      have hgK : K w w' := by
        unfold stepI at hg
        cases hc9 : ms.contains i <;> rw [hc9] at hg
        · exact hK.below hg
        · exact hg
      have hφ9 : φ[i] v w' := by
        unfold stU at hst
        cases hc9 : ms.contains i <;> rw [hc9] at hst
        · exact hst
        · exact hst.1
      refine ⟨hK.trans hb hgK, ?_, by rw [defers_put]; exact hd, by rw [size_put]; exact hs, fun t h => ?_, fun j oj f h1 h2 h3 => ?_⟩
      · cases hc9 : ms.contains i with
        | false =>
          have hni : ∀ j ∈ ms, j ≠ i := fun j hj e9 => by
            have : ms.contains i = true := by simpa using (e9 ▸ hj)
            rw [hc9] at this; cases this
          have hg9 : Below w.heap.size w w' := by unfold stepI at hg; rw [hc9] at hg; exact hg
          exact hIc _ _ _ _ w' (fun j hj => (hset j (hni j hj)).symm) (fun j hj => (hvne v j (hni j hj)).symm) (hI9 _ _ _ _ hs3 hg9)
        | true =>
          unfold stU at hst
          rw [hc9] at hst
          refine hIc _ _ _ _ w' (fun j _ => ?_) (fun j _ => ?_) hst.2
          · unfold upB
            split
            · rename_i h; rw [h, hseti]
            · rename_i h; rw [hset j h]
          · unfold upV
            split
            · rename_i h; rw [h, hveq v hun]
            · rename_i h; rw [hvne v j h]
      · rw [Act.eval_put (x := .tmp t) (fun d hd' he => by
          cases he
          simp only [outB, List.all_eq_true] at h
          have hmem : o ∈ l.take φ.length := by
            rw [List.mem_iff_getElem?]; exact ⟨i, by rw [List.getElem?_take, if_pos him]; exact ho'⟩
          have := h o hmem
          simp [hd'] at this)]
        exact hout t h
      · by_cases hji : j = i
        · subst hji
          rw [ho'] at h1; cases h1
          rw [hfi] at h2; cases h2
          unfold slot
          cases hdo : o.dst with
          | none =>
            rw [hdo] at hd1
            have := hun hd1 hdo
            subst this
            exact hφ9
          | some d =>
            have hd2 : d < a0.tmps.size := by simpa [hdo] using hd1
            have e : (a.put (some d) v).eval (.tmp d) = v := by
              have : d < a.tmps.size := by rw [hs]; exact hd2
              simp [eval_tmp, Act.put, this]
            simp only [e]
            exact hφ9
        · rw [slot_put_ne v (hne j i oj o h1 ho' hji)]
          have hjl : listed.getD j false = true := by rw [← hset j hji]; exact h3
          exact hmonoK f (List.mem_of_getElem? h2) _ _ _ (hf j oj f h1 h2 hjl) hgK
    unfold wpOp
    simp only [List.getElem?_toArray, ho']
    split
    · rename_i hw
      refine .inl (Oper.wp_mono (fun a' w' h => ?_) (hw1 hw))
      obtain ⟨v, rfl, hun, hφ, hg⟩ := h
      exact ih _ _ _ hcnt (by simpa using hsz) hdn' (hnew v w' hun hφ hg)
    · rename_i hw
      exact ih _ _ _ hcnt (by simpa using hsz) hdn' (hnew undef w (fun _ _ => rfl) (hw2 (by simpa using hw)) (by unfold stepI; cases ms.contains i; exact Below.refl _ _; exact hK.below (Below.refl _ _)))
theorem wp_reliesU {l : List Oper} {id : Nat} {W : World} {a0 : Act} {Q : Exit → Act → World → Prop} {K : World → World → Prop} (hK : KOk K) (I : (Nat → Bool) → (Nat → Value) → World → Prop) (ms : List Nat) (φ : List (Value → World → Prop)) (hms : ms.all (fun k => decide (k < l.length)) = true) (hφ : φ.length = l.length) (hB : fullC l = true) (hD : dstI ms a0.tmps.size 0 (l.take φ.length) = true)
    (hI0 : I (fun _ => false) (fun _ => undef) W) (hI9 : ∀ d u w w', I d u w → Below w.heap.size w w' → I d u w') (hIc : ∀ d d' u u' w, (∀ i ∈ ms, d i = d' i) → (∀ i ∈ ms, d i = true → u i = u' i) → I d u w → I d' u' w) (hmonoK : ∀ f ∈ φ, ∀ v w w', f v w → K w w' → f v w') (hstep : DutiesRU l φ W K I ms a0 0 l φ)
    (hend : ∀ vs w, K W w → owed vs w φ 0 → I (fun _ => true) vs w → wpList Tryz.prog l.toArray Q (asg vs l 0) a0 w) : (Code.region id l.toArray true).wp Tryz.prog Q a0 W := by
  refine wp_region_any (by kernel_rfl) (rely_U hK hφ hI9 (fun d d' u u' w h1 h2 h3 => hIc d d' u u' w h1 (fun i hi _ => h2 i hi) h3) hms hB hD hmonoK hstep (fun vs w h1 h2 h3 => by
    have h9 := wpList_asg (ops := l.toArray) (Q := Q) (w := w) (t := []) vs l 0 a0 (by rw [List.append_nil]; exact hend vs w h1 h2 h3)
    exact h9) _ _ _ _ ?_ (by simp) (fun i o _ h => by
    exfalso
    rw [Array.getD_eq_getD_getElem?, Array.getElem?_replicate] at h
    split at h <;> simp at h) ⟨hK.below (Below.refl _ _).drew, ?_, rfl, rfl, fun _ _ => rfl, fun i o f _ _ h => by
    exfalso
    rw [Array.getD_eq_getD_getElem?, Array.getElem?_replicate] at h
    split at h <;> simp at h⟩)
  · have := List.length_filter_le (fun j => !(Array.replicate l.toArray.size false).getD j false) (List.range l.length)
    simpa using this
  · refine hI9 _ _ _ _ (hIc _ _ _ _ W (fun i _ => ?_) (fun i _ h => by cases h) hI0) (Below.refl _ _).drew
    rw [Array.getD_eq_getD_getElem?, Array.getElem?_replicate]; split <;> simp
end Go.Proofs.YtalnbddkhojjbaaGreatDoor
namespace Go.Proofs.YtalnbddkhojjbaaGreatDoor
open Go.RowKit

end Go.Proofs.YtalnbddkhojjbaaGreatDoor
