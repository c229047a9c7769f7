import Derived.Test.YtklbdhpnbjhgkaaGreatDoorQReli
namespace Go.Proofs.YtklbdhpnbjhgkaaGreatDoor
open Go.RowKit

/-! The rule wp_reliesT for regions with edges that do not bind. -/
theorem rely_tailC {l : List Oper} {φ : List (Value → World → Prop)} {W : World} {a0 : Act} {Q : Exit → Act → World → Prop} (hB : tailC l φ.length = true) (hD : dstB (l.take φ.length) a0.tmps.size = true)
    (hmono : ∀ f ∈ φ, ∀ v w w', f v w → Below w.heap.size w w' → f v w') (hstep : DutiesT l φ W a0 Q l φ)
    (hend : ∀ vs w, Below W.heap.size W w → owed vs w φ 0 → wpList Tryz.prog l.toArray Q (l.drop φ.length) (puts vs (l.take φ.length) 0 a0) w) :
    ∀ (fuel : Nat) (listed : Array Bool) (a : Act) (w : World), ((List.range l.length).filter fun j => !listed.getD j false).length ≤ fuel → listed.size = l.length →
      (∀ j, φ.length ≤ j → listed.getD j false = false) → (∀ (i : Nat) o, l[i]? = some o → listed.getD i false = true → ∀ e ∈ o.after, Region.binds .any e = true → listed.getD e.on false = true) → RI l φ W a0 listed a w → wpAny Tryz.prog .any l.toArray Q fuel listed a w := by
  obtain ⟨hne, hlt, hm1, htail, hchain⟩ := tailC_spec hB
  have fin : ∀ (listed : Array Bool) (a : Act) (w : World), (∀ i, i < φ.length → listed.getD i false = true) → RI l φ W a0 listed a w → wpList Tryz.prog l.toArray Q (l.drop φ.length) a w := by
    intro listed a w hall hI
    obtain ⟨hb, hd, hs, hout, hf⟩ := hI
    have hv : ∀ (i : Nat) o f, l[i]? = some o → φ[i]? = some f → f (slot a o) w := fun i o f h1 h2 => hf i o f h1 h2 (hall i (List.getElem?_eq_some_iff.1 h2).1)
    have e := puts_eq (fun i => match l[i]? with | some o => slot a o | none => undef) a (l.take φ.length) 0 a0 hd hs hout (fun i o d h1 h2 => by
      have h1' : l[i]? = some o := by rw [List.getElem?_take] at h1; split at h1; exact h1; cases h1
      simp [h1', slot, h2])
    rw [e]
    refine hend _ w hb (owed_of φ 0 fun i f hi => ?_)
    have hi' : i < l.length := by have := (List.getElem?_eq_some_iff.1 hi).1; omega
    simp only [Nat.zero_add, List.getElem?_eq_getElem hi']
    exact hv i _ f (List.getElem?_eq_getElem hi') hi
  intro fuel
  induction fuel with
  | zero =>
    intro listed a w hc hsz ht hdn hI
    exfalso
    have : φ.length ∈ (List.range l.length).filter fun j => !listed.getD j false := by
      rw [List.mem_filter, ht _ (Nat.le_refl _)]; simp [hm1]
    have := List.length_pos_of_mem this
    omega
  | succ fuel ih =>
    intro listed a w hc hsz ht hdn hI
    refine ⟨fun hr => absurd ((ht _ (Nat.le_refl _)).symm.trans (allListedC hlt hsz hr _ hm1)) (by decide), fun i hi => ?_⟩
    rw [mem_ready] at hi
    obtain ⟨hun, o, ho, hdep⟩ := hi
    have ho' : l[i]? = some o := by simpa using ho
    have hil : i < l.length := (List.getElem?_eq_some_iff.1 ho').1
    have hif : listed.getD i false = false := by
      have : i < listed.size := by omega
      simpa [this] using hun
    have hset : ∀ j, j ≠ i → (listed.setIfInBounds i true).getD j false = listed.getD j false := fun j hj => getD_set_ne false (Ne.symm hj)
    have hseti : (listed.setIfInBounds i true).getD i false = true := by
      have : i < listed.size := by omega
      simp [this]
    rcases Nat.lt_or_ge i φ.length with him | him
    · -- a duty
      have hfi : φ[i]? = some φ[i] := List.getElem?_eq_getElem him
      have hcnt : ((List.range l.length).filter fun j => !(listed.setIfInBounds i true).getD j false).length ≤ fuel := by
        have := filter_lt (fun j => !listed.getD j false) (fun j => !(listed.setIfInBounds i true).getD j false) i (by simp only [hif]; rfl) (by simp only [hseti]; rfl) (fun j hj => by
          by_cases hji : j = i
          · subst hji; simp only [hif]; rfl
          · simp only [hset j hji] at hj; exact hj) (List.range l.length) (by simpa using hil)
        omega
      have htl : ∀ j, φ.length ≤ j → (listed.setIfInBounds i true).getD j false = false := fun j h => by rw [hset _ (by omega)]; exact ht j h
      have hdn' : ∀ (j : Nat) oj, l[j]? = some oj → (listed.setIfInBounds i true).getD j false = true → ∀ e ∈ oj.after, Region.binds .any e = true → (listed.setIfInBounds i true).getD e.on false = true := fun j oj hj hl e he hbd => by
        by_cases hei : e.on = i
        · rw [hei]; exact hseti
        · rw [hset _ hei]
          by_cases hji : j = i
          · subst hji; rw [ho'] at hj; cases hj; exact hdep e he hbd
          · rw [hset j hji] at hl; exact hdn j oj hj hl e he hbd
      obtain ⟨hb, hd, hs, hout, hf⟩ := hI
      have hdeps : depsOf l φ a w o.after.toList := depsOf_of _ fun e he hbd => by
        unfold dep1
        split
        · rename_i oj f h1 h2
          exact hf e.on oj f h1 h2 (hdep e (by simpa using he) hbd)
        · trivial
      obtain ⟨hw1, hw2⟩ := duties_getT hstep i o φ[i] ho' hfi a w hb (fun t h => hout t h) hdeps
      have hnew : ∀ v w', φ[i] v w' → Below w.heap.size w w' → RI l φ W a0 (listed.setIfInBounds i true) (a.put o.dst v) w' := fun v w' hφ hg => by
        refine ⟨hb.trans (hg.mono hb.size), by rw [defers_put]; exact hd, by rw [size_put]; exact hs, fun t h => ?_, fun j oj f h1 h2 h3 => ?_⟩
        · rw [Act.eval_put (x := .tmp t) (fun d hd' he => by
            cases he
            simp only [outB, List.all_eq_true] at h
            have hmem : o ∈ l.take φ.length := by
              rw [List.mem_iff_getElem?]; exact ⟨i, by rw [List.getElem?_take, if_pos him]; exact ho'⟩
            have := h o hmem
            simp [hd'] at this)]
          exact hout t h
        · by_cases hji : j = i
          · subst hji
            rw [ho'] at h1; cases h1
            rw [hfi] at h2; cases h2
            have hmem : o ∈ l.take φ.length := by
              rw [List.mem_iff_getElem?]; exact ⟨j, by rw [List.getElem?_take, if_pos him]; exact ho'⟩
            simp only [dstB, List.all_eq_true] at hD
            have hd1 := hD o hmem
            unfold slot
            cases hdo : o.dst with
            | none => simp [hdo] at hd1
            | some d =>
              have hd2 : d < a0.tmps.size := by simpa [hdo] using hd1
              have e : (a.put (some d) v).eval (.tmp d) = v := by
                have : d < a.tmps.size := by rw [hs]; exact hd2
                simp [eval_tmp, Act.put, this]
              simp only [e]
              exact hφ
          · rw [slot_put_ne v (hne j i oj o h1 ho' hji)]
            exact hmono f (List.mem_of_getElem? h2) _ _ _ (hf j oj f h1 h2 (by rw [← hset j hji]; exact h3)) hg
      unfold wpOp
      simp only [List.getElem?_toArray, ho']
      split
      · rename_i hw
        refine .inl (Oper.wp_mono (fun a' w' h => ?_) (hw1 hw))
        obtain ⟨v, rfl, hφ, hg⟩ := h
        exact ih _ _ _ hcnt (by simpa using hsz) htl hdn' (hnew v w' hφ hg)
      · rename_i hw
        exact ih _ _ _ hcnt (by simpa using hsz) htl hdn' (hnew undef w (hw2 (by simpa using hw)) (Below.refl _ _))
    · -- the tail
      have hil' : i = φ.length := by
        rcases Nat.eq_or_lt_of_le him with h | h
        · exact h.symm
        · exfalso
          obtain ⟨o2, ho2, e, he, h6, h7⟩ := edgeB_spec (hchain i (by omega) hil)
          rw [ho'] at ho2; cases ho2
          have := hdep e he h7
          rw [h6, ht (i - 1) (by omega)] at this
          cases this
      have hallN : ∀ n j, φ.length - j = n → j < φ.length → listed.getD j false = true := by
        intro n
        induction n using Nat.strongRecOn with
        | _ n ih2 =>
          intro j hn hj
          obtain ⟨k, hk1, hk2, hke⟩ := htail j hj
          obtain ⟨o2, ho2, e, he, h6, h7⟩ := edgeB_spec hke
          rcases Nat.eq_or_lt_of_le hk2 with h | h
          · rw [h, ← hil', ho'] at ho2; cases ho2
            rw [← h6]; exact hdep e he h7
          · rw [← h6]; exact hdn k o2 ho2 (ih2 (φ.length - k) (by omega) k rfl h) e he h7
      have hall : ∀ j, j < φ.length → listed.getD j false = true := fun j hj => hallN _ j rfl hj
      have hx := fin listed a w hall hI
      have hcl : l.length - φ.length ≤ fuel + 1 := by
        have h9 : ((List.range l.length).filter fun j => decide (φ.length ≤ j)).length ≤ ((List.range l.length).filter fun j => !listed.getD j false).length := by
          rw [← List.countP_eq_length_filter, ← List.countP_eq_length_filter]
          refine List.countP_mono_left fun j _ h => ?_
          rw [decide_eq_true_eq] at h
          rw [ht j h]; rfl
        have h10 : ((List.range l.length).filter fun j => decide (φ.length ≤ j)).length = l.length - φ.length := countGe _ _
        omega
      have hz := tail_anyC (Q := Q) hlt hchain (fuel + 1) φ.length listed a w (Nat.le_refl _) hcl hsz (fun j hj _ => hall j hj) ht hx
      exact hz.2 i (by rw [mem_ready]; exact ⟨hun, o, ho, hdep⟩)
theorem wp_reliesC {l : List Oper} {id : Nat} {W : World} {a0 : Act} {Q : Exit → Act → World → Prop} (φ : List (Value → World → Prop)) (hB : tailC l φ.length = true) (hD : dstB (l.take φ.length) a0.tmps.size = true)
    (hmono : ∀ f ∈ φ, ∀ v w w', f v w → Below w.heap.size w w' → f v w') (hstep : DutiesRT l φ W a0 l φ)
    (hend : ∀ vs w, Below W.heap.size W w → owed vs w φ 0 → wpList Tryz.prog l.toArray Q (asg vs (l.take φ.length) 0 ++ l.drop φ.length) a0 w) : (Code.region id l.toArray true).wp Tryz.prog Q a0 W := by
  refine wp_region_any (by kernel_rfl) (rely_tailC hB hD hmono (duties_ofT l φ hstep) (fun vs w h1 h2 => wpList_asg vs _ _ _ (hend vs w h1 h2)) _ _ _ _ ?_ (by simp) (fun j _ => by rw [Array.getD_eq_getD_getElem?, Array.getElem?_replicate]; split <;> rfl) (fun i o _ h => by
    exfalso
    rw [Array.getD_eq_getD_getElem?, Array.getElem?_replicate] at h
    split at h <;> simp at h) ⟨(Below.refl _ _).drew, rfl, rfl, fun _ _ => rfl, fun i o f _ _ h => by
    exfalso
    rw [Array.getD_eq_getD_getElem?, Array.getElem?_replicate] at h
    split at h <;> simp at h⟩)
  have := List.length_filter_le (fun j => !(Array.replicate l.toArray.size false).getD j false) (List.range l.length)
  simpa using this
end Go.Proofs.YtklbdhpnbjhgkaaGreatDoor
