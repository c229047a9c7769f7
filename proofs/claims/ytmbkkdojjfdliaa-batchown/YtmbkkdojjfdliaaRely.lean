
import Derived.Test.YtmbkkdojjfdliaaSec
import Derived.Orders
namespace Go.Proofs.Ytmbkkdojjfdliaa
open Go.RowKit

/-! A region that draws its order, in whatever order its operations come: each operation owes what it leaves in its slot (a fact that stays true while memory grows), out of what those owe that it waits for. Nothing that was there turns. -/

def slot (a : Act) (o : Oper) : Value := match o.dst with | some d => a.eval (.tmp d) | none => undef
/-- The slot holds this value. -/
def Fx (c : Value) : Value → World → Prop := fun v _ => v = c
def outB (l : List Oper) (t : Nat) : Bool := l.all fun o => !(o.dst == some t)
def dep1 (l : List Oper) (φ : List (Value → World → Prop)) (a : Act) (w : World) (j : Nat) : Prop :=
  match l[j]?, φ[j]? with
  | some o, some f => f (slot a o) w
  | _, _ => True
def depsOf (l : List Oper) (φ : List (Value → World → Prop)) (a : Act) (w : World) : List Edge → Prop
  | [] => True
  | e :: r => (Region.binds .any e = true → dep1 l φ a w e.on) ∧ depsOf l φ a w r
/-- One operation's duty. -/
def Duty (l : List Oper) (φ : List (Value → World → Prop)) (W : World) (a0 : Act) (Q : Exit → Act → World → Prop) (o : Oper) (f : Value → World → Prop) : Prop :=
  ∀ a w, Below W.heap.size W w → (∀ t, outB l t = true → a.eval (.tmp t) = a0.eval (.tmp t)) → depsOf l φ a w o.after.toList →
    (Region.wanted o (yielded l.toArray a.tmps) = true → o.wp Try.prog a w (fun a' w' => ∃ v, a' = a.put o.dst v ∧ f v w' ∧ Below w.heap.size w w') Q) ∧
    (Region.wanted o (yielded l.toArray a.tmps) = false → f undef w)
def Duties (l : List Oper) (φ : List (Value → World → Prop)) (W : World) (a0 : Act) (Q : Exit → Act → World → Prop) : List Oper → List (Value → World → Prop) → Prop
  | o :: r, f :: g => Duty l φ W a0 Q o f ∧ Duties l φ W a0 Q r g
  | _, _ => True
def puts (vs : Nat → Value) : List Oper → Nat → Act → Act
  | [], _, a => a
  | o :: r, k, a => puts vs r (k + 1) (a.put o.dst (vs k))
def owed (vs : Nat → Value) (w : World) : List (Value → World → Prop) → Nat → Prop
  | [], _ => True
  | f :: g, k => f (vs k) w ∧ owed vs w g (k + 1)
/-- The closed facts: the slots differ; each waits for earlier ones alone; at most one operation more than duties, and it waits for all. -/
def relyB (l : List Oper) (m : Nat) : Bool :=
  (List.range l.length).all (fun i => (List.range l.length).all fun j => i == j || (match l[i]?, l[j]? with | some a, some b => a.dst.isNone || !(a.dst == b.dst) | _, _ => true)) &&
  (List.range l.length).all (fun i => match l[i]? with | some o => o.after.all fun e => decide (e.on < i) | none => true) &&
  decide (m ≤ l.length) && decide (l.length ≤ m + 1) &&
  (match l[m]? with | some o => (List.range m).all (fun j => o.after.toList.any fun e => e.on == j && Region.binds .any e) | none => true)

def dstB (l : List Oper) (n : Nat) : Bool := l.all fun o => match o.dst with | some d => decide (d < n) | none => false
theorem duties_get {l : List Oper} {φ : List (Value → World → Prop)} {W : World} {a0 : Act} {Q : Exit → Act → World → Prop} : ∀ {r : List Oper} {g : List (Value → World → Prop)}, Duties l φ W a0 Q r g →
    ∀ (i : Nat) o f, r[i]? = some o → g[i]? = some f → Duty l φ W a0 Q o f
  | [], _, _, _, _, _, h, _ => by simp at h
  | _ :: _, [], _, _, _, _, _, h => by simp at h
  | o :: r, f :: g, h, 0, o', f', h1, h2 => by simp at h1 h2; subst h1; subst h2; exact h.1
  | o :: r, f :: g, h, i + 1, o', f', h1, h2 => duties_get h.2 i o' f' (by simpa using h1) (by simpa using h2)
theorem depsOf_of {l : List Oper} {φ : List (Value → World → Prop)} {a : Act} {w : World} : ∀ (es : List Edge), (∀ e ∈ es, Region.binds .any e = true → dep1 l φ a w e.on) → depsOf l φ a w es
  | [], _ => trivial
  | e :: r, h => ⟨h e (by simp), depsOf_of r fun e' he => h e' (by simp [he])⟩
theorem owed_of {vs : Nat → Value} {w : World} : ∀ (φ : List (Value → World → Prop)) (k : Nat), (∀ (i : Nat) f, φ[i]? = some f → f (vs (k + i)) w) → owed vs w φ k
  | [], _, _ => trivial
  | f :: g, k, h => ⟨h 0 f rfl, owed_of g (k + 1) fun i f' hf => by rw [Nat.add_assoc, Nat.add_comm 1 i]; exact h (i + 1) f' (by simpa using hf)⟩
theorem eval_tmp (a : Act) (t : Nat) : a.eval (.tmp t) = a.tmps.getD t undef := rfl
theorem size_put (a : Act) (d : Option Tmp) (v : Value) : (a.put d v).tmps.size = a.tmps.size := by cases d <;> simp [Act.put]
theorem defers_put (a : Act) (d : Option Tmp) (v : Value) : (a.put d v).defers = a.defers := by cases d <;> simp [Act.put]
/-- A frame is the first one with the slots laid over. -/
theorem puts_eq (vs : Nat → Value) (a : Act) : ∀ (l : List Oper) (k : Nat) (a0 : Act), a.defers = a0.defers → a.tmps.size = a0.tmps.size →
    (∀ t, outB l t = true → a.eval (.tmp t) = a0.eval (.tmp t)) → (∀ (i : Nat) o d, l[i]? = some o → o.dst = some d → vs (k + i) = a.eval (.tmp d)) → a = puts vs l k a0
  | [], _, a0, hd, hs, ho, _ => by
    obtain ⟨t, d⟩ := a
    obtain ⟨t0, d0⟩ := a0
    simp only at hd hs
    subst hd
    have : t = t0 := by
      apply Array.ext hs
      intro i h1 h2
      have := ho i (by simp [outB])
      simpa [eval_tmp, h1, h2] using this
    rw [this]; rfl
  | o :: r, k, a0, hd, hs, ho, hv => by
    refine puts_eq vs a r (k + 1) (a0.put o.dst (vs k)) (by rw [defers_put]; exact hd) (by rw [size_put]; exact hs) (fun t ht => ?_) (fun i o' d h1 h2 => by
      rw [Nat.add_assoc, Nat.add_comm 1 i]; exact hv (i + 1) o' d (by simpa using h1) h2)
    by_cases h : o.dst = some t
    · have h1 := hv 0 o t rfl h
      rw [h, Nat.add_zero] at *
      rw [h1]
      by_cases hlt : t < a0.tmps.size
      · simp [eval_tmp, Act.put, hlt]
      · simp [eval_tmp, Act.put, hlt, hs]
    · rw [Act.eval_put (x := .tmp t) (fun d hd' he => h (by rw [hd']; cases he; rfl))]
      exact ho t (by simp only [outB, List.all_cons, Bool.and_eq_true] at ht ⊢; exact ⟨by simp [h], ht⟩)
theorem filter_lt (f g : Nat → Bool) (i : Nat) (hfi : f i = true) (hgi : g i = false) (hle : ∀ j, g j = true → f j = true) : ∀ l : List Nat, i ∈ l → (l.filter g).length < (l.filter f).length
  | [], h => by cases h
  | x :: l, h => by
    have hmono : (l.filter g).length ≤ (l.filter f).length := by
      clear h
      induction l with
      | nil => simp
      | cons y l ih =>
        by_cases hy : g y = true
        · simp [hy, hle y hy]; omega
        · simp only [List.filter_cons, hy]
          by_cases hy' : f y = true <;> simp [hy'] <;> omega
    by_cases hx : x = i
    · subst hx; simp [hfi, hgi]; omega
    · have ih := filter_lt f g i hfi hgi hle l (by simpa [Ne.symm hx] using h)
      by_cases hy : g x = true
      · simp [hy, hle x hy]; omega
      · simp only [List.filter_cons, hy]
        by_cases hy' : f x = true <;> simp [hy'] <;> omega

/-- What holds while the region goes: of those that have come up what they owe. -/
def RI (l : List Oper) (φ : List (Value → World → Prop)) (W : World) (a0 : Act) (listed : Array Bool) (a : Act) (w : World) : Prop :=
  Below W.heap.size W w ∧ a.defers = a0.defers ∧ a.tmps.size = a0.tmps.size ∧ (∀ t, outB (l.take φ.length) t = true → a.eval (.tmp t) = a0.eval (.tmp t)) ∧
  ∀ (i : Nat) o f, l[i]? = some o → φ[i]? = some f → listed.getD i false = true → f (slot a o) w
theorem slot_put_ne {a : Act} {o o' : Oper} (v : Value) (h : o'.dst.isNone = true ∨ o'.dst ≠ o.dst) : slot (a.put o.dst v) o' = slot a o' := by
  unfold slot
  cases hd : o'.dst with
  | none => rfl
  | some d => exact Act.eval_put (x := .tmp d) (fun e he hc => by cases hc; rcases h with h | h <;> simp [hd, he] at h)
theorem allListed {l : List Oper} (hB : ∀ (i : Nat) o, l[i]? = some o → ∀ e ∈ o.after, e.on < i) {listed : Array Bool} (hsz : listed.size = l.length) (hr : Region.ready .any l.toArray listed = []) :
    ∀ i, i < l.length → listed.getD i false = true := by
  intro i
  induction i using Nat.strongRecOn with
  | _ i ih =>
    intro hi
    cases hl : listed.getD i false with
    | true => rfl
    | false =>
      have hj : i ∈ Region.ready .any l.toArray listed := by
        rw [mem_ready]
        refine ⟨?_, l[i], by simp [hi], fun e he _ => ih e.on (hB i _ (List.getElem?_eq_getElem hi) e he) ?_⟩
        · have : i < listed.size := by omega
          simpa [this] using hl
        · have := hB i _ (List.getElem?_eq_getElem hi) e he; omega
      rw [hr] at hj; cases hj
theorem ready_nil {l : List Oper} {listed : Array Bool} (h : ∀ i, i < l.length → listed.getD i false = true) : Region.ready .any l.toArray listed = [] := by
  apply List.eq_nil_iff_forall_not_mem.2
  intro i hi
  rw [mem_ready] at hi
  obtain ⟨h0, o, ho, _⟩ := hi
  have hlt : i < l.length := by have := (Array.getElem?_eq_some_iff.1 ho).1; simpa using this
  have h1 := h i hlt
  by_cases hs : i < listed.size
  · simp [hs] at h0 h1; rw [h0] at h1; cases h1
  · simp [hs] at h1
theorem wpAny_end {l : List Oper} {Q : Exit → Act → World → Prop} {listed : Array Bool} {a : Act} {w : World} (h : ∀ i, i < l.length → listed.getD i false = true) (hq : Q .normal a w) : ∀ fuel, wpAny Try.prog .any l.toArray Q fuel listed a w
  | 0 => ⟨ready_nil h, hq⟩
  | fuel + 1 => ⟨fun _ => hq, by rw [ready_nil h]; simp⟩
theorem relyB_spec {l : List Oper} {m : Nat} (h : relyB l m = true) :
    (∀ (i j : Nat) a b, l[i]? = some a → l[j]? = some b → i ≠ j → a.dst.isNone = true ∨ a.dst ≠ b.dst) ∧ (∀ (i : Nat) o, l[i]? = some o → ∀ e ∈ o.after, e.on < i) ∧ m ≤ l.length ∧ l.length ≤ m + 1 ∧
    (∀ o, l[m]? = some o → ∀ j, j < m → ∃ e ∈ o.after, e.on = j ∧ Region.binds .any e = true) := by
  simp only [relyB, Bool.and_eq_true, List.all_eq_true, List.mem_range, decide_eq_true_eq] at h
  obtain ⟨⟨⟨⟨h1, h2⟩, h3⟩, h4⟩, h5⟩ := h
  refine ⟨fun i j a b hi hj hne => ?_, fun i o hi e he => ?_, h3, h4, fun o ho j hj => ?_⟩
  · have := h1 i (List.getElem?_eq_some_iff.1 hi).1 j (List.getElem?_eq_some_iff.1 hj).1
    simp only [hi, hj, Bool.or_eq_true, beq_iff_eq, Bool.not_eq_true', beq_eq_false_iff_ne] at this
    rcases this with h | h | h
    · exact absurd h hne
    · exact .inl h
    · exact .inr h
  · have := h2 i (List.getElem?_eq_some_iff.1 hi).1
    simp only [hi, Array.all_eq_true_iff_forall_mem, decide_eq_true_eq] at this
    exact this e he
  · simp only [ho, List.all_eq_true, List.mem_range, List.any_eq_true, Bool.and_eq_true, beq_iff_eq] at h5
    obtain ⟨e, he, h6, h7⟩ := h5 j hj
    exact ⟨e, by simpa using he, h6, h7⟩
theorem rely_any {l : List Oper} {φ : List (Value → World → Prop)} {W : World} {a0 : Act} {Q : Exit → Act → World → Prop} (hB : relyB l φ.length = true) (hD : dstB (l.take φ.length) a0.tmps.size = true)
    (hmono : ∀ f ∈ φ, ∀ v w w', f v w → Below w.heap.size w w' → f v w') (hstep : Duties l φ W a0 Q l φ)
    (hend : ∀ vs w, Below W.heap.size W w → owed vs w φ 0 → wpList Try.prog l.toArray Q (l.drop φ.length) (puts vs (l.take φ.length) 0 a0) w) :
    ∀ (fuel : Nat) (listed : Array Bool) (a : Act) (w : World), ((List.range l.length).filter fun j => !listed.getD j false).length ≤ fuel → listed.size = l.length →
      (φ.length < l.length → listed.getD φ.length false = false) → RI l φ W a0 listed a w → wpAny Try.prog .any l.toArray Q fuel listed a w := by
  obtain ⟨hne, hlt, hm1, hm2, htail⟩ := relyB_spec hB
  have fin : ∀ (listed : Array Bool) (a : Act) (w : World), (∀ i, i < φ.length → listed.getD i false = true) → RI l φ W a0 listed a w → wpList Try.prog l.toArray Q (l.drop φ.length) a w := by
    intro listed a w hall hI
    obtain ⟨hb, hd, hs, hout, hf⟩ := hI
    have hv : ∀ (i : Nat) o f, l[i]? = some o → φ[i]? = some f → f (slot a o) w := fun i o f h1 h2 => hf i o f h1 h2 (hall i (List.getElem?_eq_some_iff.1 h2).1)
    have e := puts_eq (fun i => match l[i]? with | some o => slot a o | none => undef) a (l.take φ.length) 0 a0 hd hs hout (fun i o d h1 h2 => by
      have h1' : l[i]? = some o := by rw [List.getElem?_take] at h1; split at h1; exact h1; cases h1
      simp [h1', slot, h2])
    rw [e]
    refine hend _ w hb (owed_of φ 0 fun i f hi => ?_)
    have hi' : i < l.length := by have := (List.getElem?_eq_some_iff.1 hi).1; omega
    simp only [Nat.zero_add, List.getElem?_eq_getElem hi']
    exact hv i _ f (List.getElem?_eq_getElem hi') hi
  have none_left : ∀ (listed : Array Bool) (a : Act) (w : World), (∀ i, i < l.length → listed.getD i false = true) → (φ.length < l.length → listed.getD φ.length false = false) → RI l φ W a0 listed a w → Q .normal a w := by
    intro listed a w hall ht hI
    have e : φ.length = l.length := by
      rcases Nat.lt_or_ge φ.length l.length with h | h
      · have := ht h; rw [hall _ h] at this; cases this
      · omega
    have := fin listed a w (fun i hi => hall i (by omega)) hI
    rw [e, List.drop_length] at this
    exact this
  intro fuel
  induction fuel with
  | zero =>
    intro listed a w hc hsz ht hI
    have hall : ∀ i, i < l.length → listed.getD i false = true := fun i hi => by
      cases hl : listed.getD i false with
      | true => rfl
      | false =>
        have : i ∈ (List.range l.length).filter fun j => !listed.getD j false := by
          rw [List.mem_filter, hl]; simp [hi]
        have := List.length_pos_of_mem this; omega
    exact ⟨ready_nil hall, none_left listed a w hall ht hI⟩
  | succ fuel ih =>
    intro listed a w hc hsz ht hI
    refine ⟨fun hr => none_left listed a w (allListed hlt hsz hr) ht hI, fun i hi => ?_⟩
    rw [mem_ready] at hi
    obtain ⟨hun, o, ho, hdep⟩ := hi
    have ho' : l[i]? = some o := by simpa using ho
    have hil : i < l.length := (List.getElem?_eq_some_iff.1 ho').1
    have hif : listed.getD i false = false := by
      have : i < listed.size := by omega
      simpa [this] using hun
    have hset : ∀ j, j ≠ i → (listed.setIfInBounds i true).getD j false = listed.getD j false := fun j hj => getD_set_ne false (Ne.symm hj)
    have hseti : (listed.setIfInBounds i true).getD i false = true := by
      have : i < listed.size := by omega
      simp [this]
    rcases Nat.lt_or_ge i φ.length with him | him
    · -- a duty
      have hfi : φ[i]? = some φ[i] := List.getElem?_eq_getElem him
      have hcnt : ((List.range l.length).filter fun j => !(listed.setIfInBounds i true).getD j false).length ≤ fuel := by
        have := filter_lt (fun j => !listed.getD j false) (fun j => !(listed.setIfInBounds i true).getD j false) i (by simp only [hif]; rfl) (by simp only [hseti]; rfl) (fun j hj => by
          by_cases hji : j = i
          · subst hji; simp only [hif]; rfl
          · simp only [hset j hji] at hj; exact hj) (List.range l.length) (by simpa using hil)
        omega
      have htl : φ.length < l.length → (listed.setIfInBounds i true).getD φ.length false = false := fun h => by rw [hset _ (by omega)]; exact ht h
      obtain ⟨hb, hd, hs, hout, hf⟩ := hI
      have hdeps : depsOf l φ a w o.after.toList := depsOf_of _ fun e he hbd => by
        unfold dep1
        split
        · rename_i oj f h1 h2
          exact hf e.on oj f h1 h2 (hdep e (by simpa using he) hbd)
        · trivial
      have hsub : ∀ t, outB l t = true → outB (l.take φ.length) t = true := fun t h => by
        simp only [outB, List.all_eq_true] at h ⊢
        exact fun x hx => h x (List.mem_of_mem_take hx)
      obtain ⟨hw1, hw2⟩ := duties_get hstep i o φ[i] ho' hfi a w hb (fun t h => hout t (hsub t h)) hdeps
      have hnew : ∀ v w', φ[i] v w' → Below w.heap.size w w' → RI l φ W a0 (listed.setIfInBounds i true) (a.put o.dst v) w' := fun v w' hφ hg => by
        refine ⟨hb.trans (hg.mono hb.size), by rw [defers_put]; exact hd, by rw [size_put]; exact hs, fun t h => ?_, fun j oj f h1 h2 h3 => ?_⟩
        · rw [Act.eval_put (x := .tmp t) (fun d hd' he => by
            cases he
            simp only [outB, List.all_eq_true] at h
            have hmem : o ∈ l.take φ.length := by
              rw [List.mem_iff_getElem?]; exact ⟨i, by rw [List.getElem?_take, if_pos him]; exact ho'⟩
            have := h o hmem
            simp [hd'] at this)]
          exact hout t h
        · by_cases hji : j = i
          · subst hji
            rw [ho'] at h1; cases h1
            rw [hfi] at h2; cases h2
            have hmem : o ∈ l.take φ.length := by
              rw [List.mem_iff_getElem?]; exact ⟨j, by rw [List.getElem?_take, if_pos him]; exact ho'⟩
            simp only [dstB, List.all_eq_true] at hD
            have hd1 := hD o hmem
            unfold slot
            cases hdo : o.dst with
            | none => simp [hdo] at hd1
            | some d =>
              have hd2 : d < a0.tmps.size := by simpa [hdo] using hd1
              have e : (a.put (some d) v).eval (.tmp d) = v := by
                have : d < a.tmps.size := by rw [hs]; exact hd2
                simp [eval_tmp, Act.put, this]
              simp only [e]
              exact hφ
          · rw [slot_put_ne v (hne j i oj o h1 ho' hji)]
            exact hmono f (List.mem_of_getElem? h2) _ _ _ (hf j oj f h1 h2 (by rw [← hset j hji]; exact h3)) hg
      unfold wpOp
      simp only [List.getElem?_toArray, ho']
      split
      · rename_i hw
        refine .inl (Oper.wp_mono (fun a' w' h => ?_) (hw1 hw))
        obtain ⟨v, rfl, hφ, hg⟩ := h
        exact ih _ _ _ hcnt (by simpa using hsz) htl (hnew v w' hφ hg)
      · rename_i hw
        exact ih _ _ _ hcnt (by simpa using hsz) htl (hnew undef w (hw2 (by simpa using hw)) (Below.refl _ _))
    · -- the last one
      have hil' : i = φ.length := by omega
      have hall : ∀ j, j < φ.length → listed.getD j false = true := fun j hj => by
        obtain ⟨e, he, h1, h2⟩ := htail o (by rw [← hil']; exact ho') j hj
        rw [← h1]; exact hdep e he h2
      have hx := fin listed a w hall hI
      have hdrop : l.drop φ.length = [o] := by
        rw [← hil', List.drop_eq_getElem_cons hil, List.drop_of_length_le (by omega)]
        have := ho'; rw [List.getElem?_eq_getElem hil] at this; cases this; rfl
      rw [hdrop] at hx
      have hl2 : ∀ j, j < l.length → (listed.setIfInBounds i true).getD j false = true := fun j hj => by
        by_cases hji : j = i
        · subst hji; exact hseti
        · rw [hset j hji]; exact hall j (by omega)
      unfold wpOp
      simp only [List.getElem?_toArray, ho']
      unfold wpList at hx
      split
      · rename_i hw
        simp only [hw, if_true] at hx
        exact hx.imp (Oper.wp_mono fun a' w' h => wpAny_end hl2 h fuel) id
      · rename_i hw
        simp only [hw] at hx
        exact wpAny_end hl2 hx fuel

/-- THE RULE. -/
theorem wp_region_rely {l : List Oper} {id : Nat} {W : World} {a0 : Act} {Q : Exit → Act → World → Prop} (φ : List (Value → World → Prop)) (hB : relyB l φ.length = true) (hD : dstB (l.take φ.length) a0.tmps.size = true)
    (hmono : ∀ f ∈ φ, ∀ v w w', f v w → Below w.heap.size w w' → f v w') (hstep : Duties l φ W a0 Q l φ)
    (hend : ∀ vs w, Below W.heap.size W w → owed vs w φ 0 → wpList Try.prog l.toArray Q (l.drop φ.length) (puts vs (l.take φ.length) 0 a0) w) : (Code.region id l.toArray true).wp Try.prog Q a0 W := by
  refine wp_region_any (by kernel_rfl) (rely_any hB hD hmono hstep hend _ _ _ _ ?_ (by simp) (fun h => by simp [h]) ⟨(Below.refl _ _).drew, rfl, rfl, fun _ _ => rfl, fun i o f _ _ h => by
    exfalso
    rw [Array.getD_eq_getD_getElem?, Array.getElem?_replicate] at h
    split at h <;> simp at h⟩)
  have := List.length_filter_le (fun j => !(Array.replicate l.toArray.size false).getD j false) (List.range l.length)
  simpa using this
theorem Fx_mono (c v : Value) (w w' : World) (h : Fx c v w) (_ : Below w.heap.size w w') : Fx c v w' := h
theorem yielded_of {l : List Oper} {a : Act} {j d : Nat} {o : Oper} {b : Bool} (h : l[j]? = some o) (hd : o.dst = some d) (hv : a.eval (.tmp d) = .bool b) : yielded l.toArray a.tmps j = some b := by
  unfold yielded
  simp only [List.getElem?_toArray, h, Option.bind_some, hd]
  rw [eval_tmp] at hv
  cases hq : a.tmps[d]? with
  | none => simp [hq, undef] at hv
  | some x => simp [hq] at hv; subst hv; rfl

/-! The duties said of what the operands hold, the frame out of sight. -/
def slotR (ρ : Operand → Value) (o : Oper) : Value := match o.dst with | some d => ρ (.tmp d) | none => undef
def depR (l : List Oper) (φ : List (Value → World → Prop)) (ρ : Operand → Value) (x : World) (j : Nat) : Prop :=
  match l[j]?, φ[j]? with
  | some o, some f => f (slotR ρ o) x
  | _, _ => True
def depsR (l : List Oper) (φ : List (Value → World → Prop)) (ρ : Operand → Value) (x : World) : List Edge → Prop
  | [] => True
  | e :: r => (Region.binds .any e = true → depR l φ ρ x e.on) ∧ depsR l φ ρ x r
def yieldR (l : List Oper) (ρ : Operand → Value) (j : Nat) : Option Bool :=
  match l[j]? with
  | some o => match slotR ρ o with | .bool b => some b | _ => none
  | none => none
def guardR (l : List Oper) (ρ : Operand → Value) (o : Oper) (A B : Prop) : Prop :=
  match o.guard with
  | none => A
  | some (j, b) => (yieldR l ρ j = some b → A) ∧ (yieldR l ρ j ≠ some b → B)
def okUpon (f : Value → World → Prop) (x : World) : Result Next → Prop
  | .ok (.value v) x' => f v x' ∧ Below x.heap.size x x'
  | .ok (.enter fn args) x' => x' = x ∧ Calls Try.prog fn args x (fun e w' => ∃ v, e = .returned v ∧ f v w' ∧ Below x.heap.size x w')
  | _ => False
@[go_sem] theorem okUpon_value (f : Value → World → Prop) (x x' : World) (v : Value) : okUpon f x (.ok (.value v) x') = (f v x' ∧ Below x.heap.size x x') := rfl
@[go_sem] theorem okUpon_enter (f : Value → World → Prop) (x x' : World) (fn : FuncId) (args : Array Value) :
    okUpon f x (.ok (.enter fn args) x') = (x' = x ∧ Calls Try.prog fn args x (fun e w' => ∃ v, e = .returned v ∧ f v w' ∧ Below x.heap.size x w')) := rfl
@[go_sem] theorem Fx_self (c : Value) (x : World) : Fx c c x = True := eq_true rfl
@[go_sem] theorem below_self (x : World) : Below x.heap.size x x = True := eq_true (Below.refl _ _)
/-- An operation's duty. -/
def DutyR (l : List Oper) (φ : List (Value → World → Prop)) (W : World) (a0 : Act) (o : Oper) (f : Value → World → Prop) : Prop :=
  ∀ (ρ : Operand → Value) (x : World), Below W.heap.size W x → (∀ v, ρ (.const v) = v) → (∀ g, ρ (.global g) = .pointer (some ⟨g, 0, none⟩)) → (∀ k, ρ (.func k) = .func (.func k) #[] #[]) →
    (∀ t, outB l t = true → ρ (.tmp t) = a0.eval (.tmp t)) → depsR l φ ρ x o.after.toList → guardR l ρ o (okUpon f x ((execOp ρ o).run Try.prog x)) (f undef x)
def DutiesR (l : List Oper) (φ : List (Value → World → Prop)) (W : World) (a0 : Act) : List Oper → List (Value → World → Prop) → Prop
  | o :: r, f :: g => DutyR l φ W a0 o f ∧ DutiesR l φ W a0 r g
  | _, _ => True
theorem yieldR_eq (l : List Oper) (a : Act) (j : Nat) : yielded l.toArray a.tmps j = yieldR l a.eval j := by
  unfold yielded yieldR slotR
  simp only [List.getElem?_toArray]
  cases h : l[j]? with
  | none => rfl
  | some o =>
    simp only [Option.bind_some]
    cases hd : o.dst with
    | none => rfl
    | some d =>
      simp only [Option.bind_some, eval_tmp, Array.getD_eq_getD_getElem?]
      cases hq : a.tmps[d]? with
      | none => rfl
      | some x => cases x <;> rfl
theorem depsR_of {l : List Oper} {φ : List (Value → World → Prop)} {a : Act} {w : World} : ∀ es : List Edge, depsOf l φ a w es → depsR l φ a.eval w es
  | [], _ => trivial
  | _ :: r, h => ⟨fun hb => h.1 hb, depsR_of r h.2⟩
theorem duty_of {l : List Oper} {φ : List (Value → World → Prop)} {W : World} {a0 : Act} {o : Oper} {f : Value → World → Prop} {Q : Exit → Act → World → Prop} (h : DutyR l φ W a0 o f) : Duty l φ W a0 Q o f := by
  intro a w hb ho hd
  have hx := h a.eval w hb (fun _ => rfl) (fun _ => rfl) (fun _ => rfl) ho (depsR_of _ hd)
  have run : okUpon f w ((execOp a.eval o).run Try.prog w) → o.wp Try.prog a w (fun a' w' => ∃ v, a' = a.put o.dst v ∧ f v w' ∧ Below w.heap.size w w') Q := by
    intro hk
    unfold Oper.wp
    generalize (execOp a.eval o).run Try.prog w = r at hk
    cases r with
    | ok n x' =>
      cases n <;> simp only [okUpon] at hk
      case value v => exact ⟨v, rfl, hk.1, hk.2⟩
      case enter fn args =>
        obtain ⟨rfl, hc⟩ := hk
        exact hc.mono fun e w' ⟨v, he, hf, hb⟩ => by subst he; exact ⟨v, rfl, hf, hb⟩
    | halt e x' => simp only [okUpon] at hk
  unfold guardR at hx
  unfold Region.wanted
  cases hg : o.guard with
  | none => simp only [hg] at hx ⊢; exact ⟨fun _ => run hx, fun h => by cases h⟩
  | some q =>
    obtain ⟨j, b⟩ := q
    simp only [hg] at hx ⊢
    rw [yieldR_eq]
    exact ⟨fun h => run (hx.1 (by simpa using h)), fun h => hx.2 (by simpa using h)⟩
theorem duties_of {l : List Oper} {φ : List (Value → World → Prop)} {W : World} {a0 : Act} {Q : Exit → Act → World → Prop} : ∀ (r : List Oper) (g : List (Value → World → Prop)), DutiesR l φ W a0 r g → Duties l φ W a0 Q r g
  | [], _, _ => by unfold Duties; trivial
  | _ :: _, [], _ => by unfold Duties; trivial
  | _ :: r, _ :: g, h => ⟨duty_of h.1, duties_of r g h.2⟩
/-- THE RULE, as it is used. -/
theorem wp_rely {l : List Oper} {id : Nat} {W : World} {a0 : Act} {Q : Exit → Act → World → Prop} (φ : List (Value → World → Prop)) (hB : relyB l φ.length = true) (hD : dstB (l.take φ.length) a0.tmps.size = true)
    (hmono : ∀ f ∈ φ, ∀ v w w', f v w → Below w.heap.size w w' → f v w') (hstep : DutiesR l φ W a0 l φ)
    (hend : ∀ vs w, Below W.heap.size W w → owed vs w φ 0 → wpList Try.prog l.toArray Q (l.drop φ.length) (puts vs (l.take φ.length) 0 a0) w) : (Code.region id l.toArray true).wp Try.prog Q a0 W :=
  wp_region_rely φ hB hD hmono (duties_of l φ hstep) hend
theorem all_cons {p : (Value → World → Prop) → Prop} {f : Value → World → Prop} {r : List (Value → World → Prop)} (h : p f) (hr : ∀ g ∈ r, p g) : ∀ g ∈ f :: r, p g := fun g hg => by
  rcases List.mem_cons.1 hg with rfl | hg
  · exact h
  · exact hr g hg
theorem all_nil {p : (Value → World → Prop) → Prop} : ∀ g ∈ ([] : List (Value → World → Prop)), p g := fun g hg => by cases hg

/-- The slots' values, laid one by one: so the walk writes the frame out by itself. -/
def asg (vs : Nat → Value) : List Oper → Nat → List Oper
  | [], _ => []
  | o :: r, k => { dst := o.dst, op := .assign (.const (vs k)), type := 0, pos := "", after := #[], guard := none } :: asg vs r (k + 1)
theorem wpList_asg {ops : Array Oper} {Q : Exit → Act → World → Prop} {w : World} {t : List Oper} (vs : Nat → Value) : ∀ (l : List Oper) (k : Nat) (a : Act), wpList Try.prog ops Q (asg vs l k ++ t) a w → wpList Try.prog ops Q t (puts vs l k a) w
  | [], _, _, h => h
  | o :: r, k, a, h => by
    refine wpList_asg vs r (k + 1) (a.put o.dst (vs k)) ?_
    simp only [asg, List.cons_append] at h
    unfold wpList at h
    rw [if_pos (show Region.wanted _ _ = true from rfl)] at h
    rcases h with h | ⟨h, _⟩
    · exact h
    · exfalso
      have h1 : noRoomEvent ∈ (#[] : Array _) := h.1
      simp at h1
theorem wp_relies {l : List Oper} {id : Nat} {W : World} {a0 : Act} {Q : Exit → Act → World → Prop} (φ : List (Value → World → Prop)) (hB : relyB l φ.length = true) (hD : dstB (l.take φ.length) a0.tmps.size = true)
    (hmono : ∀ f ∈ φ, ∀ v w w', f v w → Below w.heap.size w w' → f v w') (hstep : DutiesR l φ W a0 l φ)
    (hend : ∀ vs w, Below W.heap.size W w → owed vs w φ 0 → wpList Try.prog l.toArray Q (asg vs (l.take φ.length) 0 ++ l.drop φ.length) a0 w) : (Code.region id l.toArray true).wp Try.prog Q a0 W :=
  wp_rely φ hB hD hmono hstep fun vs w h1 h2 => wpList_asg vs _ _ _ (hend vs w h1 h2)

/-! The same for a region in the order of its text: so that a guard that is not decided does not part the walk. -/
def plainB (l : List Oper) (m : Nat) : Bool :=
  (List.range m).all (fun i => (List.range m).all fun j => i == j || (match l[i]?, l[j]? with | some a, some b => a.dst.isNone || !(a.dst == b.dst) | _, _ => true)) &&
  (List.range m).all (fun i => match l[i]? with | some o => o.after.all fun e => decide (e.on < i) | none => true) && decide (m ≤ l.length)
theorem plainB_spec {l : List Oper} {m : Nat} (h : plainB l m = true) :
    (∀ (i j : Nat) a b, i < m → j < m → l[i]? = some a → l[j]? = some b → i ≠ j → a.dst.isNone = true ∨ a.dst ≠ b.dst) ∧ (∀ (i : Nat) o, i < m → l[i]? = some o → ∀ e ∈ o.after, e.on < i) ∧ m ≤ l.length := by
  simp only [plainB, Bool.and_eq_true, List.all_eq_true, List.mem_range, decide_eq_true_eq] at h
  obtain ⟨⟨h1, h2⟩, h3⟩ := h
  refine ⟨fun i j a b hi' hj' hi hj hne => ?_, fun i o hi' hi e he => ?_, h3⟩
  · have := h1 i hi' j hj'
    simp only [hi, hj, Bool.or_eq_true, beq_iff_eq, Bool.not_eq_true', beq_eq_false_iff_ne] at this
    rcases this with h | h | h
    · exact absurd h hne
    · exact .inl h
    · exact .inr h
  · have := h2 i hi'
    simp only [hi, Array.all_eq_true_iff_forall_mem, decide_eq_true_eq] at this
    exact this e he
theorem plain_list {l : List Oper} {φ : List (Value → World → Prop)} {W : World} {a0 : Act} {Q : Exit → Act → World → Prop} (hB : plainB l φ.length = true) (hD : dstB (l.take φ.length) a0.tmps.size = true)
    (hmono : ∀ f ∈ φ, ∀ v w w', f v w → Below w.heap.size w w' → f v w') (hstep : Duties l φ W a0 Q l φ)
    (hend : ∀ vs w, Below W.heap.size W w → owed vs w φ 0 → wpList Try.prog l.toArray Q (l.drop φ.length) (puts vs (l.take φ.length) 0 a0) w) :
    ∀ (n k : Nat) (a : Act) (w : World), k + n = φ.length → Below W.heap.size W w → a.defers = a0.defers → a.tmps.size = a0.tmps.size → (∀ t, outB (l.take φ.length) t = true → a.eval (.tmp t) = a0.eval (.tmp t)) →
      (∀ (i : Nat) o f, i < k → l[i]? = some o → φ[i]? = some f → f (slot a o) w) → wpList Try.prog l.toArray Q (l.drop k) a w := by
  obtain ⟨hne, hlt, hm⟩ := plainB_spec hB
  intro n
  induction n with
  | zero =>
    intro k a w hk hb hd hs hout hf
    obtain rfl : k = φ.length := by omega
    have e := puts_eq (fun i => match l[i]? with | some o => slot a o | none => undef) a (l.take φ.length) 0 a0 hd hs hout (fun i o d h1 h2 => by
      have h1' : l[i]? = some o := by rw [List.getElem?_take] at h1; split at h1; exact h1; cases h1
      simp [h1', slot, h2])
    rw [e]
    refine hend _ w hb (owed_of φ 0 fun i f hi => ?_)
    have hi1 := (List.getElem?_eq_some_iff.1 hi).1
    have hi' : i < l.length := by omega
    simp only [Nat.zero_add, List.getElem?_eq_getElem hi']
    exact hf i _ f hi1 (List.getElem?_eq_getElem hi') hi
  | succ n ih =>
    intro k a w hk hb hd hs hout hf
    have hkl : k < l.length := by omega
    have hkm : k < φ.length := by omega
    have ho' : l[k]? = some l[k] := List.getElem?_eq_getElem hkl
    have hfi : φ[k]? = some φ[k] := List.getElem?_eq_getElem hkm
    have hmem : l[k] ∈ l.take φ.length := by
      rw [List.mem_iff_getElem?]; exact ⟨k, by rw [List.getElem?_take, if_pos hkm]; exact ho'⟩
    have hdeps : depsOf l φ a w l[k].after.toList := depsOf_of _ fun e he hbd => by
      unfold dep1
      split
      · rename_i oj f h1 h2
        exact hf e.on oj f (hlt k _ hkm ho' e (by simpa using he)) h1 h2
      · trivial
    have hsub : ∀ t, outB l t = true → outB (l.take φ.length) t = true := fun t h => by
      simp only [outB, List.all_eq_true] at h ⊢
      exact fun x hx => h x (List.mem_of_mem_take hx)
    obtain ⟨hw1, hw2⟩ := duties_get hstep k l[k] φ[k] ho' hfi a w hb (fun t h => hout t (hsub t h)) hdeps
    have hnew : ∀ v w', φ[k] v w' → Below w.heap.size w w' → wpList Try.prog l.toArray Q (l.drop (k + 1)) (a.put l[k].dst v) w' := fun v w' hφ hg => by
      refine ih (k + 1) _ w' (by omega) (hb.trans (hg.mono hb.size)) (by rw [defers_put]; exact hd) (by rw [size_put]; exact hs) (fun t h => ?_) (fun j oj f hj h1 h2 => ?_)
      · rw [Act.eval_put (x := .tmp t) (fun d hd' he => by
          cases he
          simp only [outB, List.all_eq_true] at h
          have := h _ hmem
          simp [hd'] at this)]
        exact hout t h
      · by_cases hji : j = k
        · subst hji
          rw [ho'] at h1; cases h1
          rw [hfi] at h2; cases h2
          simp only [dstB, List.all_eq_true] at hD
          have hd1 := hD _ hmem
          unfold slot
          cases hdo : l[j].dst with
          | none => simp [hdo] at hd1
          | some d =>
            have hd2 : d < a0.tmps.size := by simpa [hdo] using hd1
            have e : (a.put (some d) v).eval (.tmp d) = v := by
              have : d < a.tmps.size := by rw [hs]; exact hd2
              simp [eval_tmp, Act.put, this]
            simp only [e]
            exact hφ
        · rw [slot_put_ne v (hne j k oj l[k] (by omega) hkm h1 ho' hji)]
          exact hmono f (List.mem_of_getElem? h2) _ _ _ (hf j oj f (by omega) h1 h2) hg
    rw [List.drop_eq_getElem_cons hkl]
    unfold wpList
    split
    · rename_i hw
      refine .inl (Oper.wp_mono (fun a' w' h => ?_) (hw1 hw))
      obtain ⟨v, rfl, hφ, hg⟩ := h
      exact hnew v w' hφ hg
    · rename_i hw
      exact hnew undef w (hw2 (by simpa using hw)) (Below.refl _ _)
theorem wp_plains {l : List Oper} {id : Nat} {W : World} {a0 : Act} {Q : Exit → Act → World → Prop} (φ : List (Value → World → Prop)) (hB : plainB l φ.length = true) (hD : dstB (l.take φ.length) a0.tmps.size = true)
    (hmono : ∀ f ∈ φ, ∀ v w w', f v w → Below w.heap.size w w' → f v w') (hstep : DutiesR l φ W a0 l φ)
    (hend : ∀ vs w, Below W.heap.size W w → owed vs w φ 0 → wpList Try.prog l.toArray Q (asg vs (l.take φ.length) 0 ++ l.drop φ.length) a0 w) : (Code.region id l.toArray false).wp Try.prog Q a0 W :=
  wp_region_lit (plain_list hB hD hmono (duties_of l φ hstep) (fun vs w h1 h2 => wpList_asg vs _ _ _ (hend vs w h1 h2)) φ.length 0 a0 W (by omega) (Below.refl _ _) rfl rfl (fun _ _ => rfl) (fun i o f h _ _ => by omega))

end Go.Proofs.Ytmbkkdojjfdliaa
