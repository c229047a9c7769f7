import Derived.Test.YtklbdhpnbjhgkaaGreatDoorQNum
import Derived.Sort.Grow
namespace Go.Proofs.YtklbdhpnbjhgkaaGreatDoor
open Go.RowKit Go.Sort

/-! The rule for a region that draws its order, with the number of draws. -/
def BelD (w w' : World) : Prop := Below w.heap.size w w' ∧ w.drawn ≤ w'.drawn
theorem BelD.refl (w : World) : BelD w w := ⟨Below.refl _ _, Nat.le_refl _⟩
theorem BelD.drew {a w : World} (h : BelD a w) : BelD a w.drew := ⟨h.1.drew, Nat.le_succ_of_le h.2⟩
theorem BelD.trans {a b c : World} (h : BelD a b) (k : BelD b c) : BelD a c := ⟨h.1.trans (k.1.mono h.1.size), Nat.le_trans h.2 k.2⟩
theorem BelD.alloc {a w : World} (h : BelD a w) (o : Obj) : BelD a (w.alloc o) := ⟨h.1.alloc h.1.size o, h.2⟩
@[go_sem] theorem belD_self (x : World) : BelD x x = True := eq_true (BelD.refl _)
theorem BelD.grow {w w' : World} (h : BelD w w') : ∃ q os, w' = grow (w.drewN q) os := by
  obtain ⟨⟨h1, h2, h3, h4, h5⟩, h6⟩ := h
  refine ⟨w'.drawn - w.drawn, w'.heap.extract w.heap.size w'.heap.size, ?_⟩
  obtain ⟨H, T, D, O, P⟩ := w'
  obtain ⟨H0, T0, D0, O0, P0⟩ := w
  simp only at h1 h2 h3 h4 h5 h6
  subst h1 h2 h3
  unfold Go.Sort.grow World.drewN
  simp only [World.mk.injEq, and_true, true_and]
  refine ⟨?_, by omega⟩
  apply Array.ext_getElem?
  intro i
  by_cases hi : i < H0.size
  · rw [h5 i hi, Array.getElem?_append_left hi]
  · rw [Array.getElem?_append_right (by omega), Array.getElem?_extract]
    by_cases hj : i < H.size
    · rw [if_pos (by omega)]; congr 1; omega
    · rw [if_neg (by omega), Array.getElem?_eq_none (by omega)]
theorem BelD.of_grow (w : World) (q : Nat) (os : Array Obj) : BelD w (Go.Sort.grow (w.drewN q) os) := ⟨⟨rfl, rfl, rfl, by simp [Go.Sort.grow, World.drewN], fun k hk => by
  simp only [Go.Sort.grow, World.drewN]
  rw [Array.getElem?_append_left (by simpa using hk)]⟩, by simp [Go.Sort.grow, World.drewN]⟩
def DutyDw (l : List Oper) (φ : List (Value → World → Prop)) (W : World) (a0 : Act) (Q : Exit → Act → World → Prop) (o : Oper) (f : Value → World → Prop) : Prop :=
  ∀ a w, BelD W w → (∀ t, outB l t = true → a.eval (.tmp t) = a0.eval (.tmp t)) → depsOf l φ a w o.after.toList →
    (Region.wanted o (yielded l.toArray a.tmps) = true → o.wp Tryz.prog a w (fun a' w' => ∃ v, a' = a.put o.dst v ∧ f v w' ∧ BelD w w') Q) ∧
    (Region.wanted o (yielded l.toArray a.tmps) = false → f undef w)
def DutiesDw (l : List Oper) (φ : List (Value → World → Prop)) (W : World) (a0 : Act) (Q : Exit → Act → World → Prop) : List Oper → List (Value → World → Prop) → Prop
  | o :: r, f :: g => DutyDw l φ W a0 Q o f ∧ DutiesDw l φ W a0 Q r g
  | _, _ => True
theorem duties_getDw {l : List Oper} {φ : List (Value → World → Prop)} {W : World} {a0 : Act} {Q : Exit → Act → World → Prop} : ∀ {r : List Oper} {g : List (Value → World → Prop)}, DutiesDw l φ W a0 Q r g →
    ∀ (i : Nat) o f, r[i]? = some o → g[i]? = some f → DutyDw l φ W a0 Q o f
  | [], _, _, _, _, _, h, _ => by simp at h
  | _ :: _, [], _, _, _, _, _, h => by simp at h
  | o :: r, f :: g, h, 0, o', f', h1, h2 => by simp at h1 h2; subst h1; subst h2; exact h.1
  | o :: r, f :: g, h, i + 1, o', f', h1, h2 => duties_getDw h.2 i o' f' (by simpa using h1) (by simpa using h2)
def RIDw (l : List Oper) (φ : List (Value → World → Prop)) (W : World) (a0 : Act) (listed : Array Bool) (a : Act) (w : World) : Prop :=
  BelD W w ∧ a.defers = a0.defers ∧ a.tmps.size = a0.tmps.size ∧ (∀ t, outB (l.take φ.length) t = true → a.eval (.tmp t) = a0.eval (.tmp t)) ∧
  ∀ (i : Nat) o f, l[i]? = some o → φ[i]? = some f → listed.getD i false = true → f (slot a o) w
theorem rely_anyDw {l : List Oper} {φ : List (Value → World → Prop)} {W : World} {a0 : Act} {Q : Exit → Act → World → Prop} (hB : relyB l φ.length = true) (hD : dstB (l.take φ.length) a0.tmps.size = true)
    (hmono : ∀ f ∈ φ, ∀ v w w', f v w → BelD w w' → f v w') (hstep : DutiesDw l φ W a0 Q l φ)
    (hend : ∀ vs w, BelD W w → owed vs w φ 0 → wpList Tryz.prog l.toArray Q (l.drop φ.length) (puts vs (l.take φ.length) 0 a0) w) :
    ∀ (fuel : Nat) (listed : Array Bool) (a : Act) (w : World), ((List.range l.length).filter fun j => !listed.getD j false).length ≤ fuel → listed.size = l.length →
      (φ.length < l.length → listed.getD φ.length false = false) → RIDw l φ W a0 listed a w → wpAny Tryz.prog .any l.toArray Q fuel listed a w := by
  obtain ⟨hne, hlt, hm1, hm2, htail⟩ := relyB_spec hB
  have fin : ∀ (listed : Array Bool) (a : Act) (w : World), (∀ i, i < φ.length → listed.getD i false = true) → RIDw l φ W a0 listed a w → wpList Tryz.prog l.toArray Q (l.drop φ.length) a w := by
    intro listed a w hall hI
    obtain ⟨hb, hd, hs, hout, hf⟩ := hI
    have hv : ∀ (i : Nat) o f, l[i]? = some o → φ[i]? = some f → f (slot a o) w := fun i o f h1 h2 => hf i o f h1 h2 (hall i (List.getElem?_eq_some_iff.1 h2).1)
    have e := puts_eq (fun i => match l[i]? with | some o => slot a o | none => undef) a (l.take φ.length) 0 a0 hd hs hout (fun i o d h1 h2 => by
      have h1' : l[i]? = some o := by rw [List.getElem?_take] at h1; split at h1; exact h1; cases h1
      simp [h1', slot, h2])
    rw [e]
    refine hend _ w hb (owed_of φ 0 fun i f hi => ?_)
    have hi' : i < l.length := by have := (List.getElem?_eq_some_iff.1 hi).1; omega
    simp only [Nat.zero_add, List.getElem?_eq_getElem hi']
    exact hv i _ f (List.getElem?_eq_getElem hi') hi
  have none_left : ∀ (listed : Array Bool) (a : Act) (w : World), (∀ i, i < l.length → listed.getD i false = true) → (φ.length < l.length → listed.getD φ.length false = false) → RIDw l φ W a0 listed a w → Q .normal a w := by
    intro listed a w hall ht hI
    have e : φ.length = l.length := by
      rcases Nat.lt_or_ge φ.length l.length with h | h
      · have := ht h; rw [hall _ h] at this; cases this
      · omega
    have := fin listed a w (fun i hi => hall i (by omega)) hI
    rw [e, List.drop_length] at this
    exact this
  intro fuel
  induction fuel with
  | zero =>
    intro listed a w hc hsz ht hI
    have hall : ∀ i, i < l.length → listed.getD i false = true := fun i hi => by
      cases hl : listed.getD i false with
      | true => rfl
      | false =>
        have : i ∈ (List.range l.length).filter fun j => !listed.getD j false := by
          rw [List.mem_filter, hl]; simp [hi]
        have := List.length_pos_of_mem this; omega
    exact ⟨ready_nil hall, none_left listed a w hall ht hI⟩
  | succ fuel ih =>
    intro listed a w hc hsz ht hI
    refine ⟨fun hr => none_left listed a w (allListed hlt hsz hr) ht hI, fun i hi => ?_⟩
    rw [mem_ready] at hi
    obtain ⟨hun, o, ho, hdep⟩ := hi
    have ho' : l[i]? = some o := by simpa using ho
    have hil : i < l.length := (List.getElem?_eq_some_iff.1 ho').1
    have hif : listed.getD i false = false := by
      have : i < listed.size := by omega
      simpa [this] using hun
    have hset : ∀ j, j ≠ i → (listed.setIfInBounds i true).getD j false = listed.getD j false := fun j hj => getD_set_ne false (Ne.symm hj)
    have hseti : (listed.setIfInBounds i true).getD i false = true := by
      have : i < listed.size := by omega
      simp [this]
    rcases Nat.lt_or_ge i φ.length with him | him
    · -- a duty
      have hfi : φ[i]? = some φ[i] := List.getElem?_eq_getElem him
      have hcnt : ((List.range l.length).filter fun j => !(listed.setIfInBounds i true).getD j false).length ≤ fuel := by
        have := filter_lt (fun j => !listed.getD j false) (fun j => !(listed.setIfInBounds i true).getD j false) i (by simp only [hif]; rfl) (by simp only [hseti]; rfl) (fun j hj => by
          by_cases hji : j = i
          · subst hji; simp only [hif]; rfl
          · simp only [hset j hji] at hj; exact hj) (List.range l.length) (by simpa using hil)
        omega
      have htl : φ.length < l.length → (listed.setIfInBounds i true).getD φ.length false = false := fun h => by rw [hset _ (by omega)]; exact ht h
      obtain ⟨hb, hd, hs, hout, hf⟩ := hI
      have hdeps : depsOf l φ a w o.after.toList := depsOf_of _ fun e he hbd => by
        unfold dep1
        split
        · rename_i oj f h1 h2
          exact hf e.on oj f h1 h2 (hdep e (by simpa using he) hbd)
        · trivial
      have hsub : ∀ t, outB l t = true → outB (l.take φ.length) t = true := fun t h => by
        simp only [outB, List.all_eq_true] at h ⊢
        exact fun x hx => h x (List.mem_of_mem_take hx)
      obtain ⟨hw1, hw2⟩ := duties_getDw hstep i o φ[i] ho' hfi a w hb (fun t h => hout t (hsub t h)) hdeps
      have hnew : ∀ v w', φ[i] v w' → BelD w w' → RIDw l φ W a0 (listed.setIfInBounds i true) (a.put o.dst v) w' := fun v w' hφ hg => by
        refine ⟨hb.trans hg, by rw [defers_put]; exact hd, by rw [size_put]; exact hs, fun t h => ?_, fun j oj f h1 h2 h3 => ?_⟩
        · rw [Act.eval_put (x := .tmp t) (fun d hd' he => by
            cases he
            simp only [outB, List.all_eq_true] at h
            have hmem : o ∈ l.take φ.length := by
              rw [List.mem_iff_getElem?]; exact ⟨i, by rw [List.getElem?_take, if_pos him]; exact ho'⟩
            have := h o hmem
            simp [hd'] at this)]
          exact hout t h
        · by_cases hji : j = i
          · subst hji
            rw [ho'] at h1; cases h1
            rw [hfi] at h2; cases h2
            have hmem : o ∈ l.take φ.length := by
              rw [List.mem_iff_getElem?]; exact ⟨j, by rw [List.getElem?_take, if_pos him]; exact ho'⟩
            simp only [dstB, List.all_eq_true] at hD
            have hd1 := hD o hmem
            unfold slot
            cases hdo : o.dst with
            | none => simp [hdo] at hd1
            | some d =>
              have hd2 : d < a0.tmps.size := by simpa [hdo] using hd1
              have e : (a.put (some d) v).eval (.tmp d) = v := by
                have : d < a.tmps.size := by rw [hs]; exact hd2
                simp [eval_tmp, Act.put, this]
              simp only [e]
              exact hφ
          · rw [slot_put_ne v (hne j i oj o h1 ho' hji)]
            exact hmono f (List.mem_of_getElem? h2) _ _ _ (hf j oj f h1 h2 (by rw [← hset j hji]; exact h3)) hg
      unfold wpOp
      simp only [List.getElem?_toArray, ho']
      split
      · rename_i hw
        refine .inl (Oper.wp_mono (fun a' w' h => ?_) (hw1 hw))
        obtain ⟨v, rfl, hφ, hg⟩ := h
        exact ih _ _ _ hcnt (by simpa using hsz) htl (hnew v w' hφ hg)
      · rename_i hw
        exact ih _ _ _ hcnt (by simpa using hsz) htl (hnew undef w (hw2 (by simpa using hw)) (BelD.refl _))
    · -- the last one
      have hil' : i = φ.length := by omega
      have hall : ∀ j, j < φ.length → listed.getD j false = true := fun j hj => by
        obtain ⟨e, he, h1, h2⟩ := htail o (by rw [← hil']; exact ho') j hj
        rw [← h1]; exact hdep e he h2
      have hx := fin listed a w hall hI
      have hdrop : l.drop φ.length = [o] := by
        rw [← hil', List.drop_eq_getElem_cons hil, List.drop_of_length_le (by omega)]
        have := ho'; rw [List.getElem?_eq_getElem hil] at this; cases this; rfl
      rw [hdrop] at hx
      have hl2 : ∀ j, j < l.length → (listed.setIfInBounds i true).getD j false = true := fun j hj => by
        by_cases hji : j = i
        · subst hji; exact hseti
        · rw [hset j hji]; exact hall j (by omega)
      unfold wpOp
      simp only [List.getElem?_toArray, ho']
      unfold wpList at hx
      split
      · rename_i hw
        simp only [hw, if_true] at hx
        exact hx.imp (Oper.wp_mono fun a' w' h => wpAny_end hl2 h fuel) id
      · rename_i hw
        simp only [hw] at hx
        exact wpAny_end hl2 hx fuel

theorem wp_region_relyDw {l : List Oper} {id : Nat} {W : World} {a0 : Act} {Q : Exit → Act → World → Prop} (φ : List (Value → World → Prop)) (hB : relyB l φ.length = true) (hD : dstB (l.take φ.length) a0.tmps.size = true)
    (hmono : ∀ f ∈ φ, ∀ v w w', f v w → BelD w w' → f v w') (hstep : DutiesDw l φ W a0 Q l φ)
    (hend : ∀ vs w, BelD W w → owed vs w φ 0 → wpList Tryz.prog l.toArray Q (l.drop φ.length) (puts vs (l.take φ.length) 0 a0) w) : (Code.region id l.toArray true).wp Tryz.prog Q a0 W := by
  refine wp_region_any (by kernel_rfl) (rely_anyDw hB hD hmono hstep hend _ _ _ _ ?_ (by simp) (fun h => by simp [h]) ⟨(BelD.refl _).drew, rfl, rfl, fun _ _ => rfl, fun i o f _ _ h => by
    exfalso
    rw [Array.getD_eq_getD_getElem?, Array.getElem?_replicate] at h
    split at h <;> simp at h⟩)
  have := List.length_filter_le (fun j => !(Array.replicate l.toArray.size false).getD j false) (List.range l.length)
  simpa using this
theorem Fx_monoDw (c v : Value) (w w' : World) (h : Fx c v w) (_ : BelD w w') : Fx c v w' := h
def okUponDw (f : Value → World → Prop) (x : World) : Result Next → Prop
  | .ok (.value v) x' => f v x' ∧ BelD x x'
  | .ok (.enter fn args) x' => x' = x ∧ Calls Tryz.prog fn args x (fun e w' => ∃ v, e = .returned v ∧ f v w' ∧ BelD x w')
  | _ => False
@[go_sem] theorem okUpon_valueDw (f : Value → World → Prop) (x x' : World) (v : Value) : okUponDw f x (.ok (.value v) x') = (f v x' ∧ BelD x x') := rfl
@[go_sem] theorem okUpon_enterDw (f : Value → World → Prop) (x x' : World) (fn : FuncId) (args : Array Value) :
    okUponDw f x (.ok (.enter fn args) x') = (x' = x ∧ Calls Tryz.prog fn args x (fun e w' => ∃ v, e = .returned v ∧ f v w' ∧ BelD x w')) := rfl
def DutyRDw (l : List Oper) (φ : List (Value → World → Prop)) (W : World) (a0 : Act) (o : Oper) (f : Value → World → Prop) : Prop :=
  ∀ (ρ : Operand → Value) (x : World), BelD W x → (∀ v, ρ (.const v) = v) → (∀ g, ρ (.global g) = .pointer (some ⟨g, 0, none⟩)) → (∀ k, ρ (.func k) = .func (.func k) #[] #[]) →
    (∀ t, outB l t = true → ρ (.tmp t) = a0.eval (.tmp t)) → depsR l φ ρ x o.after.toList → guardR l ρ o (okUponDw f x ((execOp ρ o).run Tryz.prog x)) (f undef x)
def DutiesRDw (l : List Oper) (φ : List (Value → World → Prop)) (W : World) (a0 : Act) : List Oper → List (Value → World → Prop) → Prop
  | o :: r, f :: g => DutyRDw l φ W a0 o f ∧ DutiesRDw l φ W a0 r g
  | _, _ => True
theorem duty_ofDw {l : List Oper} {φ : List (Value → World → Prop)} {W : World} {a0 : Act} {o : Oper} {f : Value → World → Prop} {Q : Exit → Act → World → Prop} (h : DutyRDw l φ W a0 o f) : DutyDw l φ W a0 Q o f := by
  intro a w hb ho hd
  have hx := h a.eval w hb (fun _ => rfl) (fun _ => rfl) (fun _ => rfl) ho (depsR_of _ hd)
  have run : okUponDw f w ((execOp a.eval o).run Tryz.prog w) → o.wp Tryz.prog a w (fun a' w' => ∃ v, a' = a.put o.dst v ∧ f v w' ∧ BelD w w') Q := by
    intro hk
    unfold Oper.wp
    generalize (execOp a.eval o).run Tryz.prog w = r at hk
    cases r with
    | ok n x' =>
      cases n <;> simp only [okUponDw] at hk
      case value v => exact ⟨v, rfl, hk.1, hk.2⟩
      case enter fn args =>
        obtain ⟨rfl, hc⟩ := hk
        exact hc.mono fun e w' ⟨v, he, hf, hb⟩ => by subst he; exact ⟨v, rfl, hf, hb⟩
    | halt e x' => simp only [okUponDw] at hk
  unfold guardR at hx
  unfold Region.wanted
  cases hg : o.guard with
  | none => simp only [hg] at hx ⊢; exact ⟨fun _ => run hx, fun h => by cases h⟩
  | some q =>
    obtain ⟨j, b⟩ := q
    simp only [hg] at hx ⊢
    rw [yieldR_eq]
    exact ⟨fun h => run (hx.1 (by simpa using h)), fun h => hx.2 (by simpa using h)⟩
theorem duties_ofDw {l : List Oper} {φ : List (Value → World → Prop)} {W : World} {a0 : Act} {Q : Exit → Act → World → Prop} : ∀ (r : List Oper) (g : List (Value → World → Prop)), DutiesRDw l φ W a0 r g → DutiesDw l φ W a0 Q r g
  | [], _, _ => by unfold DutiesDw; trivial
  | _ :: _, [], _ => by unfold DutiesDw; trivial
  | _ :: r, _ :: g, h => ⟨duty_ofDw h.1, duties_ofDw r g h.2⟩
theorem wp_relyDw {l : List Oper} {id : Nat} {W : World} {a0 : Act} {Q : Exit → Act → World → Prop} (φ : List (Value → World → Prop)) (hB : relyB l φ.length = true) (hD : dstB (l.take φ.length) a0.tmps.size = true)
    (hmono : ∀ f ∈ φ, ∀ v w w', f v w → BelD w w' → f v w') (hstep : DutiesRDw l φ W a0 l φ)
    (hend : ∀ vs w, BelD W w → owed vs w φ 0 → wpList Tryz.prog l.toArray Q (l.drop φ.length) (puts vs (l.take φ.length) 0 a0) w) : (Code.region id l.toArray true).wp Tryz.prog Q a0 W :=
  wp_region_relyDw φ hB hD hmono (duties_ofDw l φ hstep) hend
theorem wp_reliesDw {l : List Oper} {id : Nat} {W : World} {a0 : Act} {Q : Exit → Act → World → Prop} (φ : List (Value → World → Prop)) (hB : relyB l φ.length = true) (hD : dstB (l.take φ.length) a0.tmps.size = true)
    (hmono : ∀ f ∈ φ, ∀ v w w', f v w → BelD w w' → f v w') (hstep : DutiesRDw l φ W a0 l φ)
    (hend : ∀ vs w, BelD W w → owed vs w φ 0 → wpList Tryz.prog l.toArray Q (asg vs (l.take φ.length) 0 ++ l.drop φ.length) a0 w) : (Code.region id l.toArray true).wp Tryz.prog Q a0 W :=
  wp_relyDw φ hB hD hmono hstep fun vs w h1 h2 => wpList_asg vs _ _ _ (hend vs w h1 h2)

end Go.Proofs.YtklbdhpnbjhgkaaGreatDoor
