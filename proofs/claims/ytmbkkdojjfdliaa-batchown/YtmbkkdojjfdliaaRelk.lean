
import Derived.Test.YtmbkkdojjfdliaaRelt
namespace Go.Proofs.Ytmbkkdojjfdliaa
open Go.RowKit

/-! The rule for a region that draws its order, one of whose operations (m) turns what was there: those that it waits for (es) come ahead of it, the others at any time. K: what all of them keep. -/
structure KOk (K : World → World → Prop) : Prop where
  below : ∀ {w w'}, Below w.heap.size w w' → K w w'
  trans : ∀ {w w' w''}, K w w' → K w' w'' → K w w''
def earlyB (l : List Oper) (m : Nat) (es : List Nat) : Bool := es.all fun j => (List.range (m + 1)).any fun k => decide (j < k) && (k == m || es.contains k) && edgeB l k j
def stepK (K : World → World → Prop) (m i : Nat) (w w' : World) : Prop := bif i == m then K w w' else Below w.heap.size w w'
theorem stepK_K {K : World → World → Prop} (hK : KOk K) {m i : Nat} {w w' : World} (h : stepK K m i w w') : K w w' := by
  unfold stepK at h
  cases hq : i == m <;> rw [hq] at h
  · exact hK.below h
  · exact h
theorem stepK_refl {K : World → World → Prop} (hK : KOk K) (m i : Nat) (w : World) : stepK K m i w w := by
  unfold stepK
  cases i == m
  · exact Below.refl _ _
  · exact hK.below (Below.refl _ _)
theorem early_listed {l : List Oper} {m : Nat} {es : List Nat} {listed : Array Bool} (hE : earlyB l m es = true) (hdn : ∀ (i : Nat) o, l[i]? = some o → listed.getD i false = true → ∀ e ∈ o.after, Region.binds .any e = true → listed.getD e.on false = true) (hl : listed.getD m false = true) : ∀ i, (i ∈ es ∨ i = m) → listed.getD i false = true := by
  have key : ∀ n i, m - i = n → i ∈ es → listed.getD i false = true := by
    intro n
    induction n using Nat.strongRecOn with
    | _ n ih =>
      intro i hn hi
      simp only [earlyB, List.all_eq_true, List.any_eq_true, List.mem_range, Bool.and_eq_true, Bool.or_eq_true, decide_eq_true_eq, beq_iff_eq] at hE
      obtain ⟨k, hk, ⟨hik, hkm⟩, he⟩ := hE i hi
      obtain ⟨o, ho, e, hee, h6, h7⟩ := edgeB_spec he
      rw [← h6]
      refine hdn k o ho ?_ e hee h7
      rcases hkm with rfl | hk2
      · exact hl
      · exact ih (m - k) (by omega) k rfl (by simpa using hk2)
  intro i hi
  rcases hi with hi | rfl
  · exact key _ i rfl hi
  · exact hl
/-- One operation's duty. -/
def DutyK (l : List Oper) (φ : List (Value → World → Prop)) (W : World) (K : World → World → Prop) (es : List Nat) (m : Nat) (a0 : Act) (Q : Exit → Act → World → Prop) (i : Nat) (o : Oper) (f : Value → World → Prop) : Prop :=
  ∀ a w, K W w → ((es.contains i || i == m) = true → Below W.heap.size W w) → (∀ t, outB (l.take φ.length) t = true → a.eval (.tmp t) = a0.eval (.tmp t)) → depsOf l φ a w o.after.toList →
    (Region.wanted o (yielded l.toArray a.tmps) = true → o.wp Try.prog a w (fun a' w' => ∃ v, a' = a.put o.dst v ∧ f v w' ∧ stepK K m i w w') Q) ∧
    (Region.wanted o (yielded l.toArray a.tmps) = false → f undef w)
def DutiesK (l : List Oper) (φ : List (Value → World → Prop)) (W : World) (K : World → World → Prop) (es : List Nat) (m : Nat) (a0 : Act) (Q : Exit → Act → World → Prop) : Nat → List Oper → List (Value → World → Prop) → Prop
  | i, o :: r, f :: g => DutyK l φ W K es m a0 Q i o f ∧ DutiesK l φ W K es m a0 Q (i + 1) r g
  | _, _, _ => True
theorem duties_getK {l : List Oper} {φ : List (Value → World → Prop)} {W : World} {K : World → World → Prop} {es : List Nat} {m : Nat} {a0 : Act} {Q : Exit → Act → World → Prop} : ∀ {k : Nat} {r : List Oper} {g : List (Value → World → Prop)}, DutiesK l φ W K es m a0 Q k r g →
    ∀ (i : Nat) o f, r[i]? = some o → g[i]? = some f → DutyK l φ W K es m a0 Q (k + i) o f
  | _, [], _, _, _, _, _, h, _ => by simp at h
  | _, _ :: _, [], _, _, _, _, _, h => by simp at h
  | k, o :: r, f :: g, h, 0, o', f', h1, h2 => by simp at h1 h2; subst h1; subst h2; exact h.1
  | k, o :: r, f :: g, h, i + 1, o', f', h1, h2 => by
    have := duties_getK h.2 i o' f' (by simpa using h1) (by simpa using h2)
    rwa [show k + 1 + i = k + (i + 1) by omega] at this
def okUponK (K : World → World → Prop) (f : Value → World → Prop) (x : World) : Result Next → Prop
  | .ok (.value v) x' => f v x' ∧ K x x'
  | .ok (.enter fn args) x' => x' = x ∧ Calls Try.prog fn args x (fun e w' => ∃ v, e = .returned v ∧ f v w' ∧ K x w')
  | _ => False
@[go_sem] theorem okUponK_enter (K : World → World → Prop) (f : Value → World → Prop) (x x' : World) (fn : FuncId) (args : Array Value) :
    okUponK K f x (.ok (.enter fn args) x') = (x' = x ∧ Calls Try.prog fn args x (fun e w' => ∃ v, e = .returned v ∧ f v w' ∧ K x w')) := rfl
@[go_sem] theorem okUponK_value (K : World → World → Prop) (f : Value → World → Prop) (x x' : World) (v : Value) : okUponK K f x (.ok (.value v) x') = (f v x' ∧ K x x') := rfl
def DutyRK (l : List Oper) (φ : List (Value → World → Prop)) (W : World) (K : World → World → Prop) (es : List Nat) (m : Nat) (a0 : Act) (i : Nat) (o : Oper) (f : Value → World → Prop) : Prop :=
  ∀ (ρ : Operand → Value) (x : World), K W x → ((es.contains i || i == m) = true → Below W.heap.size W x) → (∀ v, ρ (.const v) = v) → (∀ g, ρ (.global g) = .pointer (some ⟨g, 0, none⟩)) → (∀ k, ρ (.func k) = .func (.func k) #[] #[]) →
    (∀ t, outB (l.take φ.length) t = true → ρ (.tmp t) = a0.eval (.tmp t)) → depsR l φ ρ x o.after.toList → guardR l ρ o (bif i == m then okUponK K f x ((execOp ρ o).run Try.prog x) else okUpon f x ((execOp ρ o).run Try.prog x)) (f undef x)
def DutiesRK (l : List Oper) (φ : List (Value → World → Prop)) (W : World) (K : World → World → Prop) (es : List Nat) (m : Nat) (a0 : Act) : Nat → List Oper → List (Value → World → Prop) → Prop
  | i, o :: r, f :: g => DutyRK l φ W K es m a0 i o f ∧ DutiesRK l φ W K es m a0 (i + 1) r g
  | _, _, _ => True
theorem duty_ofK {l : List Oper} {φ : List (Value → World → Prop)} {W : World} {K : World → World → Prop} {es : List Nat} {m : Nat} {a0 : Act} {i : Nat} {o : Oper} {f : Value → World → Prop} {Q : Exit → Act → World → Prop} (h : DutyRK l φ W K es m a0 i o f) : DutyK l φ W K es m a0 Q i o f := by
  intro a w hk hb ho hd
  have hx := h a.eval w hk hb (fun _ => rfl) (fun _ => rfl) (fun _ => rfl) ho (depsR_of _ hd)
  have run : (bif i == m then okUponK K f w ((execOp a.eval o).run Try.prog w) else okUpon f w ((execOp a.eval o).run Try.prog w)) → o.wp Try.prog a w (fun a' w' => ∃ v, a' = a.put o.dst v ∧ f v w' ∧ stepK K m i w w') Q := by
    intro hk
    unfold Oper.wp stepK
    generalize (execOp a.eval o).run Try.prog w = r at hk
    cases hq : i == m <;> rw [hq] at hk
    · cases r with
      | ok n x' =>
        cases n <;> simp only [okUpon, cond_false] at hk
        case value v => exact ⟨v, rfl, hk.1, hk.2⟩
        case enter fn args =>
          obtain ⟨rfl, hc⟩ := hk
          exact hc.mono fun e w' ⟨v, he, hf, hb⟩ => by subst he; exact ⟨v, rfl, hf, hb⟩
      | halt e x' => simp only [okUpon, cond_false] at hk
    · cases r with
      | ok n x' =>
        cases n <;> simp only [okUponK, cond_true] at hk
        case value v => exact ⟨v, rfl, hk.1, hk.2⟩
        case enter fn args =>
          obtain ⟨rfl, hc⟩ := hk
          exact hc.mono fun e w' ⟨v, he, hf, hb⟩ => by subst he; exact ⟨v, rfl, hf, hb⟩
      | halt e x' => simp only [okUponK, cond_true] at hk
  unfold guardR at hx
  unfold Region.wanted
  cases hg : o.guard with
  | none => simp only [hg] at hx ⊢; exact ⟨fun _ => run hx, fun h => by cases h⟩
  | some q =>
    obtain ⟨j, b⟩ := q
    simp only [hg] at hx ⊢
    rw [yieldR_eq]
    exact ⟨fun h => run (hx.1 (by simpa using h)), fun h => hx.2 (by simpa using h)⟩
theorem duties_ofK {l : List Oper} {φ : List (Value → World → Prop)} {W : World} {K : World → World → Prop} {es : List Nat} {m : Nat} {a0 : Act} {Q : Exit → Act → World → Prop} : ∀ (k : Nat) (r : List Oper) (g : List (Value → World → Prop)), DutiesRK l φ W K es m a0 k r g → DutiesK l φ W K es m a0 Q k r g
  | _, [], _, _ => by unfold DutiesK; trivial
  | _, _ :: _, [], _ => by unfold DutiesK; trivial
  | k, _ :: r, _ :: g, h => ⟨duty_ofK h.1, duties_ofK (k + 1) r g h.2⟩
/-- What holds while the region goes. -/
def RIK (l : List Oper) (φ : List (Value → World → Prop)) (W : World) (K : World → World → Prop) (m : Nat) (a0 : Act) (listed : Array Bool) (a : Act) (w : World) : Prop :=
  K W w ∧ (listed.getD m false = false → Below W.heap.size W w) ∧ a.defers = a0.defers ∧ a.tmps.size = a0.tmps.size ∧ (∀ t, outB (l.take φ.length) t = true → a.eval (.tmp t) = a0.eval (.tmp t)) ∧
  ∀ (i : Nat) o f, l[i]? = some o → φ[i]? = some f → listed.getD i false = true → f (slot a o) w
theorem rely_tailK {l : List Oper} {φ : List (Value → World → Prop)} {W : World} {K : World → World → Prop} {es : List Nat} {m : Nat} {a0 : Act} {Q : Exit → Act → World → Prop} (hK : KOk K) (hm : m < φ.length) (hE : earlyB l m es = true) (hB : tailB l φ.length = true) (hD : dstB (l.take φ.length) a0.tmps.size = true)
    (hmono : ∀ f ∈ φ, ∀ v w w', f v w → Below w.heap.size w w' → f v w') (hmonoK : ∀ f ∈ φ.eraseIdx m, ∀ v w w', f v w → K w w' → f v w') (hstep : DutiesK l φ W K es m a0 Q 0 l φ)
    (hend : ∀ vs w, K W w → owed vs w φ 0 → wpList Try.prog l.toArray Q (l.drop φ.length) (puts vs (l.take φ.length) 0 a0) w) :
    ∀ (fuel : Nat) (listed : Array Bool) (a : Act) (w : World), ((List.range l.length).filter fun j => !listed.getD j false).length ≤ fuel → listed.size = l.length →
      (∀ j, φ.length ≤ j → listed.getD j false = false) → (∀ (i : Nat) o, l[i]? = some o → listed.getD i false = true → ∀ e ∈ o.after, Region.binds .any e = true → listed.getD e.on false = true) → RIK l φ W K m a0 listed a w → wpAny Try.prog .any l.toArray Q fuel listed a w := by
  obtain ⟨hne, hlt, hm1, htail, hchain⟩ := tailB_spec hB
  have fin : ∀ (listed : Array Bool) (a : Act) (w : World), (∀ i, i < φ.length → listed.getD i false = true) → RIK l φ W K m a0 listed a w → wpList Try.prog l.toArray Q (l.drop φ.length) a w := by
    intro listed a w hall hI
    obtain ⟨hb, hbe, hd, hs, hout, hf⟩ := hI
    have hv : ∀ (i : Nat) o f, l[i]? = some o → φ[i]? = some f → f (slot a o) w := fun i o f h1 h2 => hf i o f h1 h2 (hall i (List.getElem?_eq_some_iff.1 h2).1)
    have e := puts_eq (fun i => match l[i]? with | some o => slot a o | none => undef) a (l.take φ.length) 0 a0 hd hs hout (fun i o d h1 h2 => by
      have h1' : l[i]? = some o := by rw [List.getElem?_take] at h1; split at h1; exact h1; cases h1
      simp [h1', slot, h2])
    rw [e]
    refine hend _ w hb (owed_of φ 0 fun i f hi => ?_)
    have hi' : i < l.length := by have := (List.getElem?_eq_some_iff.1 hi).1; omega
    simp only [Nat.zero_add, List.getElem?_eq_getElem hi']
    exact hv i _ f (List.getElem?_eq_getElem hi') hi
  intro fuel
  induction fuel with
  | zero =>
    intro listed a w hc hsz ht hdn hI
    exfalso
    have : φ.length ∈ (List.range l.length).filter fun j => !listed.getD j false := by
      rw [List.mem_filter, ht _ (Nat.le_refl _)]; simp [hm1]
    have := List.length_pos_of_mem this
    omega
  | succ fuel ih =>
    intro listed a w hc hsz ht hdn hI
    refine ⟨fun hr => absurd ((ht _ (Nat.le_refl _)).symm.trans (allListed hlt hsz hr _ hm1)) (by decide), fun i hi => ?_⟩
    rw [mem_ready] at hi
    obtain ⟨hun, o, ho, hdep⟩ := hi
    have ho' : l[i]? = some o := by simpa using ho
    have hil : i < l.length := (List.getElem?_eq_some_iff.1 ho').1
    have hif : listed.getD i false = false := by
      have : i < listed.size := by omega
      simpa [this] using hun
    have hset : ∀ j, j ≠ i → (listed.setIfInBounds i true).getD j false = listed.getD j false := fun j hj => getD_set_ne false (Ne.symm hj)
    have hseti : (listed.setIfInBounds i true).getD i false = true := by
      have : i < listed.size := by omega
      simp [this]
    rcases Nat.lt_or_ge i φ.length with him | him
    · -- a duty
      have hfi : φ[i]? = some φ[i] := List.getElem?_eq_getElem him
      have hcnt : ((List.range l.length).filter fun j => !(listed.setIfInBounds i true).getD j false).length ≤ fuel := by
        have := filter_lt (fun j => !listed.getD j false) (fun j => !(listed.setIfInBounds i true).getD j false) i (by simp only [hif]; rfl) (by simp only [hseti]; rfl) (fun j hj => by
          by_cases hji : j = i
          · subst hji; simp only [hif]; rfl
          · simp only [hset j hji] at hj; exact hj) (List.range l.length) (by simpa using hil)
        omega
      have htl : ∀ j, φ.length ≤ j → (listed.setIfInBounds i true).getD j false = false := fun j h => by rw [hset _ (by omega)]; exact ht j h
      have hdn' : ∀ (j : Nat) oj, l[j]? = some oj → (listed.setIfInBounds i true).getD j false = true → ∀ e ∈ oj.after, Region.binds .any e = true → (listed.setIfInBounds i true).getD e.on false = true := fun j oj hj hl e he hbd => by
        by_cases hei : e.on = i
        · rw [hei]; exact hseti
        · rw [hset _ hei]
          by_cases hji : j = i
          · subst hji; rw [ho'] at hj; cases hj; exact hdep e he hbd
          · rw [hset j hji] at hl; exact hdn j oj hj hl e he hbd
      obtain ⟨hb, hbe, hd, hs, hout, hf⟩ := hI
      have hdeps : depsOf l φ a w o.after.toList := depsOf_of _ fun e he hbd => by
        unfold dep1
        split
        · rename_i oj f h1 h2
          exact hf e.on oj f h1 h2 (hdep e (by simpa using he) hbd)
        · trivial
      have hear : (es.contains i || i == m) = true → Below W.heap.size W w := fun hh => hbe (by
        cases hlm : listed.getD m false with
        | false => rfl
        | true =>
          exfalso
          have hall9 := early_listed hE hdn hlm i (by simpa using hh)
          rw [hif] at hall9; cases hall9)
      obtain ⟨hw1, hw2⟩ := duties_getK hstep i o φ[i] ho' hfi a w hb (by rw [Nat.zero_add]; exact hear) (fun t h => hout t h) hdeps
      rw [Nat.zero_add] at hw1
      have hnew : ∀ v w', φ[i] v w' → stepK K m i w w' → RIK l φ W K m a0 (listed.setIfInBounds i true) (a.put o.dst v) w' := fun v w' hφ hg => by
        have hgK : K w w' := stepK_K hK hg
        refine ⟨hK.trans hb hgK, fun hl9 => ?_, by rw [defers_put]; exact hd, by rw [size_put]; exact hs, fun t h => ?_, fun j oj f h1 h2 h3 => ?_⟩
        · have him9 : i ≠ m := fun e9 => by rw [e9] at hseti; rw [e9, hseti] at hl9; cases hl9
          have hb9 := hbe (by rw [← hset m (Ne.symm him9)]; exact hl9)
          have hg9 : Below w.heap.size w w' := by unfold stepK at hg; rw [beq_false_of_ne him9] at hg; exact hg
          exact hb9.trans (hg9.mono hb9.size)
        · rw [Act.eval_put (x := .tmp t) (fun d hd' he => by
            cases he
            simp only [outB, List.all_eq_true] at h
            have hmem : o ∈ l.take φ.length := by
              rw [List.mem_iff_getElem?]; exact ⟨i, by rw [List.getElem?_take, if_pos him]; exact ho'⟩
            have := h o hmem
            simp [hd'] at this)]
          exact hout t h
        · by_cases hji : j = i
          · subst hji
            rw [ho'] at h1; cases h1
            rw [hfi] at h2; cases h2
            have hmem : o ∈ l.take φ.length := by
              rw [List.mem_iff_getElem?]; exact ⟨j, by rw [List.getElem?_take, if_pos him]; exact ho'⟩
            simp only [dstB, List.all_eq_true] at hD
            have hd1 := hD o hmem
            unfold slot
            cases hdo : o.dst with
            | none => simp [hdo] at hd1
            | some d =>
              have hd2 : d < a0.tmps.size := by simpa [hdo] using hd1
              have e : (a.put (some d) v).eval (.tmp d) = v := by
                have : d < a.tmps.size := by rw [hs]; exact hd2
                simp [eval_tmp, Act.put, this]
              simp only [e]
              exact hφ
          · rw [slot_put_ne v (hne j i oj o h1 ho' hji)]
            by_cases him9 : i = m
            · exact hmonoK f (List.mem_eraseIdx_iff_getElem?.2 ⟨j, fun e9 => hji (e9.trans him9.symm), h2⟩) _ _ _ (hf j oj f h1 h2 (by rw [← hset j hji]; exact h3)) hgK
            · have hg9 : Below w.heap.size w w' := by unfold stepK at hg; rw [beq_false_of_ne him9] at hg; exact hg
              exact hmono f (List.mem_of_getElem? h2) _ _ _ (hf j oj f h1 h2 (by rw [← hset j hji]; exact h3)) hg9
      unfold wpOp
      simp only [List.getElem?_toArray, ho']
      split
      · rename_i hw
        refine .inl (Oper.wp_mono (fun a' w' h => ?_) (hw1 hw))
        obtain ⟨v, rfl, hφ, hg⟩ := h
        exact ih _ _ _ hcnt (by simpa using hsz) htl hdn' (hnew v w' hφ hg)
      · rename_i hw
        exact ih _ _ _ hcnt (by simpa using hsz) htl hdn' (hnew undef w (hw2 (by simpa using hw)) (stepK_refl hK _ _ _))
    · -- the tail
      have hil' : i = φ.length := by
        rcases Nat.eq_or_lt_of_le him with h | h
        · exact h.symm
        · exfalso
          obtain ⟨o2, ho2, e, he, h6, h7⟩ := edgeB_spec (hchain i (by omega) hil)
          rw [ho'] at ho2; cases ho2
          have := hdep e he h7
          rw [h6, ht (i - 1) (by omega)] at this
          cases this
      have hallN : ∀ n j, φ.length - j = n → j < φ.length → listed.getD j false = true := by
        intro n
        induction n using Nat.strongRecOn with
        | _ n ih2 =>
          intro j hn hj
          obtain ⟨k, hk1, hk2, hke⟩ := htail j hj
          obtain ⟨o2, ho2, e, he, h6, h7⟩ := edgeB_spec hke
          rcases Nat.eq_or_lt_of_le hk2 with h | h
          · rw [h, ← hil', ho'] at ho2; cases ho2
            rw [← h6]; exact hdep e he h7
          · rw [← h6]; exact hdn k o2 ho2 (ih2 (φ.length - k) (by omega) k rfl h) e he h7
      have hall : ∀ j, j < φ.length → listed.getD j false = true := fun j hj => hallN _ j rfl hj
      have hx := fin listed a w hall hI
      have hcl : l.length - φ.length ≤ fuel + 1 := by
        have h9 : ((List.range l.length).filter fun j => decide (φ.length ≤ j)).length ≤ ((List.range l.length).filter fun j => !listed.getD j false).length := by
          rw [← List.countP_eq_length_filter, ← List.countP_eq_length_filter]
          refine List.countP_mono_left fun j _ h => ?_
          rw [decide_eq_true_eq] at h
          rw [ht j h]; rfl
        have h10 : ((List.range l.length).filter fun j => decide (φ.length ≤ j)).length = l.length - φ.length := countGe _ _
        omega
      have hz := tail_any (Q := Q) hlt hchain (fuel + 1) φ.length listed a w (Nat.le_refl _) hcl hsz (fun j hj _ => hall j hj) ht hx
      exact hz.2 i (by rw [mem_ready]; exact ⟨hun, o, ho, hdep⟩)
theorem wp_reliesK {l : List Oper} {id : Nat} {W : World} {a0 : Act} {Q : Exit → Act → World → Prop} {K : World → World → Prop} (hK : KOk K) (m : Nat) (es : List Nat) (φ : List (Value → World → Prop)) (hm : m < φ.length) (hE : earlyB l m es = true) (hB : tailB l φ.length = true) (hD : dstB (l.take φ.length) a0.tmps.size = true)
    (hmono : ∀ f ∈ φ, ∀ v w w', f v w → Below w.heap.size w w' → f v w') (hmonoK : ∀ f ∈ φ.eraseIdx m, ∀ v w w', f v w → K w w' → f v w') (hstep : DutiesRK l φ W K es m a0 0 l φ)
    (hend : ∀ vs w, K W w → owed vs w φ 0 → wpList Try.prog l.toArray Q (asg vs (l.take φ.length) 0 ++ l.drop φ.length) a0 w) : (Code.region id l.toArray true).wp Try.prog Q a0 W := by
  refine wp_region_any (by kernel_rfl) (rely_tailK hK hm hE hB hD hmono hmonoK (duties_ofK 0 l φ hstep) (fun vs w h1 h2 => wpList_asg vs _ _ _ (hend vs w h1 h2)) _ _ _ _ ?_ (by simp) (fun j _ => by rw [Array.getD_eq_getD_getElem?, Array.getElem?_replicate]; split <;> rfl) (fun i o _ h => by
    exfalso
    rw [Array.getD_eq_getD_getElem?, Array.getElem?_replicate] at h
    split at h <;> simp at h) ⟨hK.below (Below.refl _ _).drew, fun _ => (Below.refl _ _).drew, rfl, rfl, fun _ _ => rfl, fun i o f _ _ h => by
    exfalso
    rw [Array.getD_eq_getD_getElem?, Array.getElem?_replicate] at h
    split at h <;> simp at h⟩)
  have := List.length_filter_le (fun j => !(Array.replicate l.toArray.size false).getD j false) (List.range l.length)
  simpa using this
end Go.Proofs.Ytmbkkdojjfdliaa
