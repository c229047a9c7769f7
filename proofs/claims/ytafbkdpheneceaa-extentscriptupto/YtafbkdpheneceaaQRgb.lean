import Derived.Test.YtafbkdpheneceaaQRis
namespace Go.Proofs.Ytafbkdpheneceaa
open Go.RowKit Go.Shelf

/-! A range over a method bound to its receiver. I Z pre W: what the rounds keep up, apart from the blocks Z, which are the iterator's. -/
structure Bears (B : Nat) (I : List Nat → List Pr → World → Prop) : Prop where
  grow : ∀ {Z pre W W'}, I Z pre W → Keep Z W W' → I Z pre W'
  new : ∀ {Z Z' pre W W'}, I Z pre W → Below W.heap.size W W' → (∀ q ∈ Z', W.heap.size ≤ q ∧ q < W'.heap.size) → I (Z' ++ Z) pre W'
  lt : ∀ {Z pre W}, I Z pre W → ∀ q ∈ Z, q < W.heap.size
  put : ∀ {Z pre W k o} (o' : Obj), I Z pre W → B ≤ k → W.heap[k]? = some o → o.isCells = false → I Z pre (W.putObj k o')
/-- How a round may be left. -/
def rngB (I : List Nat → List Pr → World → Prop) (Ix : List Pr → World → Prop) (Z : List Nat) (xs : List Pr) (W : World) : Exit → Act → World → Prop
  | .normal, _, W' => KeepsOthers W W' ∧ I Z xs W' ∧ ∀ q ∈ Z, W'.heap[q]? = W.heap[q]?
  | .ret, _, W' => KeepsOthers W W' ∧ Ix xs W'
  | _, _, _ => False
theorem putObj_of {W : World} {l k : Nat} {o o' o1 : Obj} (hl : W.heap[l]? = some o) (hk : W.heap[k]? = some o1) (hne : k ≠ l) : (W.putObj l o').heap[k]? = some o1 ∧ (W.putObj l o').heap[l]? = some o' :=
  ⟨(World.putObj_heap_other hne).trans hk, World.putObj_heap_same (Array.getElem?_eq_some_iff.1 hl).1⟩
theorem wp_rangeB {g : Operand} {p : Tmp} {assign body : Code} {Q : Exit → Act → World → Prop} {a : Act} {w : World} {gf : Nat} {rv : Value} {L : List Pr}
    (hg : a.eval g = .func (.func gf) #[rv] #[]) (eg : ∀ args w, (callFunc gf args).run Try.prog w = .ok (.enter gf args) w)
    (hseq : ∀ (l : Nat) (J : List Nat → List Pr → World → Prop) (Jx : List Pr → World → Prop) (W : World), Below w.heap.size w W → Rnd l L J Jx → J [] [] W →
      CallsIn Fence.wide 9 Try.prog gf #[rv, .func (.yield l) #[] #[]] W fun e W' => (∃ v, e = .returned v) ∧ ((∃ Z ys, Come L ys [] ∧ J Z ys W') ∨ (∃ pre rest, Come L pre rest ∧ Jx pre W')))
    (I : List Nat → List Pr → World → Prop) (Ix : List Pr → World → Prop) (hI : Bears w.heap.size I) (hIx : ∀ {pre W k o} (o' : Obj), Ix pre W → w.heap.size ≤ k → W.heap[k]? = some o → o.isCells = false → Ix pre (W.putObj k o')) (h0 : I [] [] w) (a₁ : Pr → Nat → Act)
    (hassign : ∀ (l : Nat) (x : Pr) (W : World) (K : Act → World → Prop), K (a₁ x W.heap.size) (W.alloc (.cells (prA x) 56)) →
      assign.wpIn (Fence.wide.inRound l) 8 Try.prog (Exit.then K (fun _ _ _ => False)) { tmps := a.tmps.setIfInBounds p (.agg (prA x)), defers := [] } W)
    (hbody : ∀ (l : Nat) (Z : List Nat) (pre : List Pr) (x : Pr) (gx : Nat) (W : World), I Z pre W → RowC W gx (prA x) → pre.length < L.length → x ∈ L → body.wpIn (Fence.wide.inRound l) 8 Try.prog (rngB I Ix Z (pre ++ [x]) W) (a₁ x gx) W)
    (hdone : ∀ (D : Nat) (Z : List Nat) (xs : List Pr) (W : World), w.heap.size ≤ D → Come L xs [] → I Z xs W → W.heap[D]? = some (.deferred (some [])) → Q .normal { a with defers := mkD D :: a.defers } W)
    (hstop : ∀ (D : Nat) (pre rest : List Pr) (W : World), w.heap.size ≤ D → Come L pre rest → Ix pre W → W.heap[D]? = some (.deferred (some [])) → Code.ret.wp Try.prog Q { a with defers := mkD D :: a.defers } W) :
    (Code.rangeFunc g #[p] assign body).wp Try.prog Q a w := by
  refine wpIn_wide.1 (wpIn_rangeFunc (n := 10) fun fn hfn => ?_)
  let R : LoopState → Option Code → Loop := fun s j => { state := s, pending := j, fn, tmps := a.tmps, params := #[p], assign, body, defers := w.heap.size }
  have e1 : (Instr.enterLoop fn a.tmps #[p] assign body Fence.wide.round).run Try.prog w = .ok (w.heap.size + 1, [mkD w.heap.size]) ((w.alloc (.deferred (some []))).alloc (.loop (R .ready none))) := run_enterLoop_outer fn a.tmps #[p] assign body
  have hD0 : ((w.alloc (.deferred (some []))).alloc (.loop (R .ready none))).heap[w.heap.size]? = some (.deferred (some [])) := (heap_old _ _ _ (by simp)).trans (heap_new _ _)
  have hl0 : ((w.alloc (.deferred (some []))).alloc (.loop (R .ready none))).heap[w.heap.size + 1]? = some (.loop (R .ready none)) := by
    have := heap_new (w.alloc (.deferred (some []))) (.loop (R .ready none))
    rwa [show (w.alloc (.deferred (some []))).heap.size = w.heap.size + 1 by simp] at this
  have hB0 : Below w.heap.size w ((w.alloc (.deferred (some []))).alloc (.loop (R .ready none))) := below_al2 w _ _
  generalize (w.alloc (.deferred (some []))).alloc (.loop (R .ready none)) = W1 at e1 hD0 hl0 hB0
  have hI0 : I [] [] W1 := hI.grow h0 (Keep.of_below hB0)
  generalize hl : w.heap.size + 1 = l at e1 hl0
  generalize hD : w.heap.size = D at e1 hD0 R
  have hlD : D ≠ l := by omega
  refine ⟨l, [mkD D], W1, { target := .fn (.func gf) #[], args := #[rv, .func (.yield l) #[] #[]] }, W1, gf, #[rv, .func (.yield l) #[] #[]], W1, e1, ?_, ?_, ?_, fun _ => by omega, ?_⟩
  · simp only [resolve, hg]
    simp [go_sem]
  · intro f' hf'
    simp [Target.leads] at hf'
    trivial
  · simp [invoke, go_sem, eg]
  · refine (hseq l (fun Z pre W => I Z pre W ∧ W.heap[l]? = some (.loop (R .ready none)) ∧ W.heap[D]? = some (.deferred (some [])) ∧ l ∉ Z ∧ D ∉ Z)
      (fun pre W => Ix pre W ∧ W.heap[l]? = some (.loop (R .done (some .ret))) ∧ W.heap[D]? = some (.deferred (some []))) W1 hB0 ⟨?_, ?_, ?_⟩ ⟨hI0, hl0, hD0, by simp, by simp⟩).mono ?_
    · rintro Z pre W W' ⟨h1, h2, h3, h4, h5⟩ hk
      exact ⟨hI.grow h1 hk, (hk.block l (Array.getElem?_eq_some_iff.1 h2).1 h4).trans h2, (hk.block D (Array.getElem?_eq_some_iff.1 h3).1 h5).trans h3, h4, h5⟩
    · rintro Z Z' pre W W' ⟨h1, h2, h3, h4, h5⟩ hb hZ
      have q2 := (Array.getElem?_eq_some_iff.1 h2).1
      have q3 := (Array.getElem?_eq_some_iff.1 h3).1
      exact ⟨hI.new h1 hb hZ, (hb.block l q2).trans h2, (hb.block D q3).trans h3, fun hm => (List.mem_append.1 hm).elim (fun h9 => by have := hZ l h9; omega) h4, fun hm => (List.mem_append.1 hm).elim (fun h9 => by have := hZ D h9; omega) h5⟩
    · rintro Z pre x W ⟨h1, h2, h3, h4, h5⟩ hlen hmem
      have hy : (Instr.yield l #[.agg (prA x)]).run Try.prog W = .ok (.round l fn (a.tmps.setIfInBounds p (.agg (prA x))) assign body) W := by
        have := run_yield (P := Try.prog) (args := #[.agg (prA x)]) h2 rfl
        simpa [R] using this
      have hlt2 := (Array.getElem?_eq_some_iff.1 h2).1
      have hlt3 := (Array.getElem?_eq_some_iff.1 h3).1
      have hb5 := below_alloc W (.cells (prA x) 56)
      have h1' := hI.grow h1 (Keep.of_below hb5)
      have h2' := (hb5.block l hlt2).trans h2
      have h3' := (hb5.block D hlt3).trans h3
      refine ⟨fn, a.tmps.setIfInBounds p (.agg (prA x)), assign, body, hy, roundIn_of_wpIn hfn (hassign l x W _ ⟨_, run_beginRound h2' rfl, ?_⟩)⟩
      obtain ⟨k3, k2⟩ := putObj_of (o' := .loop { R .ready none with state := .busy }) h2' h3' hlD
      have hrow : RowC ((W.alloc (.cells (prA x) 56)).putObj l (.loop { R .ready none with state := .busy })) W.heap.size (prA x) := by
        have hr := RowC.newB W (prA x) 56
        have he : ((W.alloc (.cells (prA x) 56)).putObj l (.loop { R .ready none with state := .busy })).heap[W.heap.size]? = (W.alloc (.cells (prA x) 56)).heap[W.heap.size]? := World.putObj_heap_other (by omega)
        unfold RowC rowL rowAt at *
        rw [he]; exact hr
      refine wpIn_mono (hbody l Z pre x W.heap.size _ (hI.put _ h1' (by omega) h2' rfl) hrow hlen hmem) ?_
      have hz : ∀ q ∈ Z, q < W.heap.size → ((W.alloc (.cells (prA x) 56)).putObj l (.loop { R .ready none with state := .busy })).heap[q]? = W.heap[q]? := fun q hq hlt => (World.putObj_heap_other (fun e => h4 (by rw [← e]; exact hq))).trans (hb5.block q hlt)
      have hzlt := hI.lt h1
      generalize (W.alloc (.cells (prA x) 56)).putObj l (.loop { R .ready none with state := .busy }) = W2 at k2 k3 hz
      intro e a3 W3 hp
      cases e with
      | exit id => exact hp.elim
      | goto t => exact hp.elim
      | panic ch => exact hp.elim
      | outgrown => exact hp.elim
      | normal =>
        obtain ⟨hK, hI3, hz3⟩ := hp
        have j2 := hK.same l _ k2 rfl
        have j3 := hK.same D _ k3 rfl
        obtain ⟨i3, i2⟩ := putObj_of (o' := .loop (R .ready none)) j2 j3 hlD
        exact ⟨_, _, run_endRound none j2, .inl ⟨rfl, ⟨hI.put _ hI3 (by omega) j2 rfl, i2, i3, h4, h5⟩, fun q hq => (World.putObj_heap_other (fun e => h4 (by rw [← e]; exact hq))).trans ((hz3 q hq).trans (hz q hq (hzlt q hq)))⟩⟩
      | ret =>
        obtain ⟨hK, hI3⟩ := hp
        have j2 := hK.same l _ k2 rfl
        have j3 := hK.same D _ k3 rfl
        obtain ⟨i3, i2⟩ := putObj_of (o' := .loop (R .done (some .ret))) j2 j3 hlD
        exact ⟨_, _, run_endRound (some .ret) j2, .inr ⟨rfl, hIx _ hI3 (by omega) j2 rfl, i2, i3⟩⟩
    · rintro e W2 ⟨⟨v, rfl⟩, (⟨Z, ys, hC, h1, h2, h3, h4, h5⟩ | ⟨pre, rest, hC, h1, h2, h3⟩)⟩
      · exact ⟨none, _, run_endLoop h2 (by simp [R]), hdone D Z ys _ (by omega) hC (hI.put _ h1 (by omega) h2 rfl) (putObj_of h2 h3 hlD).1⟩
      · exact ⟨some .ret, _, run_endLoop h2 (by simp [R]), wpIn_wide.2 (hstop D pre rest _ (by omega) hC (hIx _ h1 (by omega) h2 rfl) (putObj_of h2 h3 hlD).1)⟩
end Go.Proofs.Ytafbkdpheneceaa
