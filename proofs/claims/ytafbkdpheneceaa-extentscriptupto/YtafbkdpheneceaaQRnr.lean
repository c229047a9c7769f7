import Derived.Test.YtafbkdpheneceaaQDev2
import Derived.Test.YtafbkdpheneceaaQRelt
namespace Go.Proofs.Ytafbkdpheneceaa
open Go.RowKit Go.Shelf

/-! Regions in a round: what is walked outside of it holds within it -/
theorem rowsIn_wide {n : Nat} {P : Program} {row : String} {args : Array Value} {w : World} {R : Value → World → Prop} (h : Rows P row args w R) : RowsIn Fence.wide n P row args w R := fun c cs _ => by
  obtain ⟨v, w', hr, hs⟩ := h c cs
  exact ⟨v, w', hr, stepsIn_wide.2 hs⟩
theorem upon_in {n l : Nat} {P : Program} {o : Oper} {a : Act} {K K' : Act → World → Prop} {Q : Exit → Act → World → Prop} (hk : ∀ a w, K a w → K' a w) : ∀ (r : Result Next), o.upon P a K Q r → o.uponIn (Fence.wide.inRound l) n P a K' Q r
  | .ok (.value _) _, h => hk _ _ h
  | .ok .skip _, h => hk _ _ h
  | .ok (.defer _) _, h => hk _ _ h
  | .ok (.enter _ _) _, h => by
    refine ⟨fun e => (by cases e), CallsIn.inRound l (callsIn_wide.2 (Calls.mono h ?_))⟩
    intro e w' hh
    cases e with
    | returned v => exact hk _ _ hh
    | panicked ch => exact hh
    | outgrown => exact hh
  | .ok (.row _ _) _, h => ⟨fun e => (by cases e), (rowsIn_wide h).mono fun _ _ hh => hk _ _ hh⟩
  | .halt (.panic _) _, h => h
theorem wpOp_in {n l : Nat} {P : Program} {o : Oper} {a : Act} {w : World} {K K' : Act → World → Prop} {Q : Exit → Act → World → Prop} (hd : ∀ c, o.op ≠ .defer c) (hk : ∀ a w, K a w → K' a w) (h : o.wp P a w K Q) : o.wpIn (Fence.wide.inRound l) n P a w K' Q := by
  refine ⟨fun _ _ => trivial, ?_⟩
  show o.uponIn (Fence.wide.inRound l) n P a K' Q ((o.semAt (some l) a.eval).run P w)
  rw [Oper.semAt_some _ _ _ hd]
  exact upon_in hk _ h
def calmB (l : List Oper) : Bool := l.all fun o => match o.op with | .defer _ => false | _ => true
theorem calm_op {l : List Oper} (h : calmB l = true) {i : Nat} {o : Oper} (ho : l.toArray[i]? = some o) : ∀ c, o.op ≠ .defer c := by
  intro c hc
  have hm : o ∈ l := by
    rw [List.getElem?_toArray] at ho
    exact List.mem_of_getElem? ho
  have := List.all_eq_true.1 h o hm
  rw [hc] at this
  cases this
theorem any_in {n l : Nat} {P : Program} {md : Region.Mode} {ops : List Oper} {Q : Exit → Act → World → Prop} (hc : calmB ops = true) (hq : ¬ LetsOut Q) : ∀ (fuel : Nat) (listed : Array Bool) (a : Act) (w : World), wpAny P md ops.toArray Q fuel listed a w → wpAnyIn (Fence.wide.inRound l) n P md ops.toArray Q fuel listed a w
  | 0, _, _, _, h => h
  | fuel + 1, listed, a, w, h => by
    refine ⟨h.1, fun i hi => ?_⟩
    have h1 := h.2 i hi
    unfold wpOp at h1
    unfold wpOpIn
    cases ho : ops.toArray[i]? with
    | none => rw [ho] at h1; exact any_in hc hq fuel _ _ _ h1
    | some o =>
      rw [ho] at h1
      simp only at h1 ⊢
      split at h1
      · rename_i hw
        rw [if_pos hw]
        rcases h1 with h1 | h1
        · exact wpOp_in (calm_op hc ho) (fun a w hh => any_in hc hq fuel _ a w hh) h1
        · exact absurd h1.2 hq
      · rename_i hw
        rw [if_neg hw]
        exact ⟨fun _ _ => trivial, any_in hc hq fuel _ _ _ h1⟩
theorem wpR_reliesT {l : List Oper} {id r n : Nat} {W : World} {a0 : Act} {Q : Exit → Act → World → Prop} (hq : ¬ LetsOut Q) (hc : calmB l = true) (φ : List (Value → World → Prop)) (hB : tailB l φ.length = true) (hD : dstB (l.take φ.length) a0.tmps.size = true)
    (hmono : ∀ f ∈ φ, ∀ v w w', f v w → Below w.heap.size w w' → f v w') (hstep : DutiesRT l φ W a0 l φ)
    (hend : ∀ vs w, Below W.heap.size W w → owed vs w φ 0 → wpList Try.prog l.toArray Q (asg vs (l.take φ.length) 0 ++ l.drop φ.length) a0 w) : (Code.region id l.toArray true).wpIn (Fence.wide.inRound r) n Try.prog Q a0 W := by
  refine wpIn_region_any (by kernel_rfl) (any_in hc hq _ _ _ _ (rely_tail hB hD hmono (duties_ofT l φ hstep) (fun vs w h1 h2 => wpList_asg vs _ _ _ (hend vs w h1 h2)) _ _ _ _ ?_ (by simp) (fun j _ => by rw [Array.getD_eq_getD_getElem?, Array.getElem?_replicate]; split <;> rfl) (fun i o _ h => by
    exfalso
    rw [Array.getD_eq_getD_getElem?, Array.getElem?_replicate] at h
    split at h <;> simp at h) ⟨(Below.refl _ _).drew, rfl, rfl, fun _ _ => rfl, fun i o f _ _ h => by
    exfalso
    rw [Array.getD_eq_getD_getElem?, Array.getElem?_replicate] at h
    split at h <;> simp at h⟩))
  have := List.length_filter_le (fun j => !(Array.replicate l.toArray.size false).getD j false) (List.range l.length)
  simpa using this
end Go.Proofs.Ytafbkdpheneceaa
