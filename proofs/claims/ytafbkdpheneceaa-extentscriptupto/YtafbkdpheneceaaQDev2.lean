import Derived.Test.YtafbkdpheneceaaQDev1
import Derived.Test.YtafbkdpheneceaaQGenA
import Derived.RangeFuncNested
import Derived.RangeFuncBound
import Derived.RangeFuncCalls
import Derived.RangeFuncLeaves
import Derived.Shelf.Abstract
import Derived.Shelf.RegionOpen
import Derived.WalkKit
import Derived.OwnWalkIn
import Derived.TacticsInMore
import Derived.LoopNIn
import Derived.LoopIn
namespace Go.Proofs.Ytafbkdpheneceaa
open Go.RowKit

/-! assaylaw05's helpers -/
def kS (s : Sc) : List UInt8 := (List.range 64).map s
def kW (x : Wr) : Int × List UInt8 := (x.1, kS x.2)
theorem secEq_dec (a b : Sc) : secEq a b = decide (kS a = kS b) := by
  rw [← beq_secL]
  show (kS a == kS b) = _
  rw [Bool.eq_iff_iff, beq_iff_eq, decide_eq_true_iff]
theorem kS_iff (a b : Sc) : kS a = kS b ↔ secA a = secA b := by
  rw [secA_inj, ← secEq_iff, secEq_dec, decide_eq_true_iff]
theorem wrEq_dec (a b : Wr) : wrEq a b = decide (kW a = kW b) := by
  unfold wrEq kW
  rw [Bool.eq_iff_iff, decide_eq_true_iff, Bool.and_eq_true, beq_iff_eq, secEq_dec, decide_eq_true_iff, Prod.mk.injEq]
theorem kW_iff (a b : Wr) : kW a = kW b ↔ wrA a = wrA b := by
  unfold kW
  rw [Prod.mk.injEq, kS_iff]
  constructor
  · rintro ⟨h1, h2⟩
    unfold wrA
    rw [h1, h2]
  · intro h
    have h1 := congrArg (fun x => x[0]?) h
    simp only [wrA_at, Option.some.injEq, Value.int.injEq, true_and] at h1
    have h2 := congrArg (fun x => x.extract 1 (1 + 64)) h
    simp only [wrA_data] at h2
    exact ⟨h1, h2⟩
end Go.Proofs.Ytafbkdpheneceaa
namespace Go.Proofs.Ytafbkdpheneceaa
open Go.RowKit

/-! A row that holds a sector; assaylaw05's sector and fill -/
def ScR (w : World) (g : Nat) (s : Sc) : Prop := rowOk w g = true ∧ rowAt w g = secA s
theorem ScR.kept {w w1 : World} {g : Nat} {s : Sc} (h : ScR w g s) (hb : Below w.heap.size w w1) : ScR w1 g s := keepRow hb (lt_of_rowOk h.1) h.1 h.2
theorem ScR.new (w : World) (s : Sc) (t : TypeId) : ScR (w.alloc (.cells (secA s) t)) w.heap.size s := ⟨rowOk_new _ _ _ _ rfl (secA_size _), rowAt_new _ _ _ _ rfl⟩
theorem ScR.lt {w : World} {g : Nat} {s : Sc} (h : ScR w g s) : g < w.heap.size := lt_of_rowOk h.1
theorem ScR.cell {w : World} {g : Nat} {s : Sc} (h : ScR w g s) (i : Nat) (hi : i < 64) : w.cell? ⟨g, i, none⟩ = some (Value.int .u8 ((s i).toNat : Int)) := by
  rw [cell_rowAt h.1, h.2, secA_get s i hi]
theorem ScR.frozen {w : World} {g : Nat} {s : Sc} (h : ScR w g s) (i : Nat) : w.frozen? ⟨g, i, none⟩ = false := by
  obtain ⟨t, hg, _⟩ := row_of_ok h.1
  simp [World.frozen?, hg]
theorem ScR.set {w : World} {g : Nat} {s : Sc} (h : ScR w g s) (i : Nat) (b : UInt8) (hi : i < 64) : ScR (w.setCell ⟨g, i, none⟩ (.int .u8 (b.toNat : Int))) g (upd s i b) := by
  obtain ⟨t, hg, hs⟩ := row_of_ok h.1
  have e := heap_setCell w g i (.int .u8 (b.toNat : Int)) _ t _ hg
  constructor
  · unfold rowOk; rw [e]; simp [hs]
  · have e2 : rowAt (w.setCell ⟨g, i, none⟩ (.int .u8 (b.toNat : Int))) g = (rowAt w g).setIfInBounds i (.int .u8 (b.toNat : Int)) := by
      show (match (w.setCell ⟨g, i, none⟩ (.int .u8 (b.toNat : Int))).heap[g]? with | some (.cells c _ _) => c | _ => #[]) = _
      rw [e]
    rw [e2, h.2]; exact secA_set s i b hi
theorem ScR.set_ne {w : World} {g k : Nat} {s : Sc} (h : ScR w k s) (i : Nat) (v : Value) (hn : g ≠ k) : ScR (w.setCell ⟨g, i, none⟩ v) k s := by
  unfold ScR rowOk rowAt at *
  have e : (w.setCell ⟨g, i, none⟩ v).heap[k]? = w.heap[k]? := by simp only [World.setCell, Array.getElem?_modify]; rw [if_neg hn]
  rw [e]; exact h
theorem ScR.range {w : World} {g : Nat} {s : Sc} (h : ScR w g s) : w.rangeAt g 0 (secA s).toList := fun j u hu => by
  rw [Array.getElem?_toList] at hu
  rw [Nat.zero_add, cell_rowAt h.1, h.2]; exact hu
def sectorD (v : UInt8) : Sc := fun i => v + UInt8.ofNat i
def upS (d : Sc) (k : Nat) : Sc := fun j => if j < k then d j else 0
theorem upS_zero (d : Sc) : upS d 0 = secZ := by funext j; simp [upS, secZ]
theorem upS_succ (d : Sc) (k : Nat) : upS d (k + 1) = upd (upS d k) k (d k) := by
  funext j
  unfold upS upd
  by_cases h : j = k
  · subst h; simp
  · have : (j < k + 1) = (j < k) := by simp; omega
    simp [h, this]
theorem upS_all (d : Sc) : secA (upS d 64) = secA d := (secA_inj _ _).2 fun i hi => by simp [upS, hi]
def firstS (fs : List UInt8) (i : Nat) : Sc := if i < fs.length then upd secZ 0 (fs[i]?.getD 0) else secZ
def fillL (n : Nat) (fs : List UInt8) : List Sc := (List.range n).map (firstS fs)
theorem fillL_len (n : Nat) (fs : List UInt8) : (fillL n fs).length = n := by simp [fillL]
theorem fillL_succ (n : Nat) (fs : List UInt8) : fillL (n + 1) fs = fillL n fs ++ [firstS fs n] := by simp [fillL, List.range_succ]
theorem wpL_appT {ops : Array Oper} {rest : List Oper} {o : Oper} {a : Act} {w : World} {Q : Exit → Act → World → Prop} (t : TypeId) (hgd : o.guard = none) (s x : Operand)
    (ho : o.op = .call { callee := .builtin .append, args := #[s, x], argTypes := #[t, t] }) (v' : Value) (w' : World) (hr : (Builtin.append_ #[t, t] o.type #[a.eval s, a.eval x]).run Try.prog w = .ok v' w')
    (h : wpList Try.prog ops Q rest (a.put o.dst v') w') : wpList Try.prog ops Q (o :: rest) a w :=
  wpList_plain hgd fun _ hK => by
    unfold Oper.wp execOp
    simp only [ho, resolve, invoke, builtin, Sem.run_bind, Sem.run_pure, Result.andThen_ok, List.map_toArray, List.map_cons, List.map_nil, hr]
    exact hK _ _ h
end Go.Proofs.Ytafbkdpheneceaa
namespace Go.Proofs.Ytafbkdpheneceaa
open Go.RowKit Go.Shelf

/-! A range over a function, walked outside of any fence: only the round's body is walked in one -/
theorem calls_marks {f : FuncId} {fn : Func} {c : Code} {args : Array Value} {w : World} {R : Ending → World → Prop} (hf : Try.prog.funcs[f]? = some fn) (hb : fn.body = some c)
    (h : c.wp Try.prog (bodyPostM Fence.wide 10 Try.prog fn R) { tmps := args ++ Array.replicate (fn.ntmps - args.size) undef, defers := [] } w) : Calls Try.prog f args w R :=
  callsIn_wide.1 (callsIn_of_wp_marks (n := 10) hf hb trivial (wpIn_wide.2 h) rfl)
/-- What a predicate of the world must bear: new blocks, and the turn of a block that is no cells. -/
def Stands (P : World → Prop) : Prop := ∀ (W W' : World) (row : Option Nat), P W → W.grownBy W' row → (∀ r, row = some r → ∃ o : Obj, W.heap[r]? = some o ∧ o.isCells = false) → P W'
theorem Stands.put {P : World → Prop} (h : Stands P) {W : World} {l : Nat} {o : Obj} (o' : Obj) (hP : P W) (hl : W.heap[l]? = some o) (ho : o.isCells = false) : P (W.putObj l o') :=
  h W _ (some l) hP (grownBy_putObj' W l o') (fun r e => by cases e; exact ⟨o, hl, ho⟩)
theorem Stands.and {P R : World → Prop} (h : Stands P) (k : Stands R) : Stands (fun W => P W ∧ R W) := fun W W' row hs hg hr => ⟨h W W' row hs.1 hg hr, k W W' row hs.2 hg hr⟩
theorem Stands.pure (p : Prop) : Stands (fun _ => p) := fun _ _ _ h _ _ => h
theorem Stands.ex {β : Type} {P : β → World → Prop} (h : ∀ b, Stands (P b)) : Stands (fun W => ∃ b, P b W) := fun W W' row hs hg hr => by
  obtain ⟨b, hb⟩ := hs
  exact ⟨b, h b W W' row hb hg hr⟩
theorem Stands.owns {β : Type} {I : β → World → Prop} (h : ∀ b, Stands (I b)) : Own I := fun s W W' row hs hg hr => h s W W' row hs hg hr
theorem row_other {W : World} {row : Option Nat} {b : Nat} {cs : Array Value} {t : TypeId} {fr : Nat × Nat} (h : W.heap[b]? = some (.cells cs t fr)) (hr : ∀ r, row = some r → ∃ o : Obj, W.heap[r]? = some o ∧ o.isCells = false) : some b ≠ row := by
  intro e
  obtain ⟨o, ho, hc⟩ := hr b e.symm
  rw [h] at ho; cases ho; cases hc
theorem cell_block {W : World} {a : Addr} {v : Value} (h : W.cell? a = some v) : ∃ cs t fr, W.heap[a.block]? = some (.cells cs t fr) := by
  unfold World.cell? at h
  split at h
  · rename_i cs t fr hh; exact ⟨cs, t, fr, hh⟩
  · cases h
theorem stands_cell (a : Addr) (v : Value) : Stands (fun W => W.cell? a = some v) := fun W W' row hs hg hr => by
  obtain ⟨cs, t, fr, h⟩ := cell_block hs
  have := hg.block a.block (Array.getElem?_eq_some_iff.1 h).1 (row_other h hr)
  unfold World.cell? at hs ⊢
  rw [this]; exact hs
theorem stands_box (b : Nat) (t : TypeId) (v : Value) : Stands (fun W => Boxed W b t v) := fun _ _ _ hs hg hr => hs.kept hg (row_other hs hr)
theorem stands_isG (v : Value) (xs : List Value) : Stands (fun W => IsG W v xs) := fun W W' row hs hg hr => by
  rcases hs with h | ⟨x, c, h1, h2⟩
  · exact .inl h
  · exact .inr ⟨x, c, h1, fun i hi => stands_cell _ _ W W' row (h2 i hi) hg hr⟩
theorem stands_ownsRow (B e k : Nat) (v : Value) (n : Nat) (xs : List Value) : Stands (fun W => W.ownsRow B e k v n xs) := fun W W' row hs hg hr => by
  refine hs.kept hg ?_
  rcases hs.2 with ⟨rfl, _⟩ | ⟨g, cap, cur, rfl, _, hgb, _⟩
  · exact .inl rfl
  · exact .inr fun e' => row_other hgb hr (by simpa [Value.ownBlock] using e')
theorem stands_ownG (e B : Nat) (v : Value) (xs : List Value) : Stands (fun W => OwnG e W B v xs) := stands_ownsRow B e 1 v _ xs
theorem stands_ownK {α : Type} (E : EK α) (B : Nat) (v : Value) (ds : List α) : Stands (fun W => OwnK E W B v ds) := stands_ownsRow B E.T E.k v _ _
theorem stands_ScR (g : Nat) (s : Sc) : Stands (fun W => ScR W g s) := fun W W' row hs hg hr => by
  obtain ⟨cs, t, fr, h⟩ := cell_block (hs.cell 0 (by omega))
  have hb := hg.block g (Array.getElem?_eq_some_iff.1 h).1 (row_other h hr)
  obtain ⟨h1, h2⟩ := hs
  unfold rowOk at h1
  unfold rowAt at h2
  unfold ScR rowOk rowAt
  rw [hb]
  exact ⟨h1, h2⟩
theorem kp_b {P : World → Prop} (h : Stands P) {B : Nat} (W : World) (l : Nat) (o o' : Obj) (_ : B ≤ l) (hl : W.heap[l]? = some o) (ho : o.isCells = false) (_ : o.isWalk = false) : P W → P (W.putObj l o') := fun hp => h.put o' hp hl ho
/-- How a round may be left. -/
def rngPost {α : Type} (P : World → Prop) (B : Nat) (w0 : World) (I : List α → World → Prop) (Ix : Code → List α → World → Prop) (xs : List α) (W : World) : Exit → Act → World → Prop
  | .normal, _, W' => KeepsOthers W W' ∧ (P W → P W') ∧ I xs W' ∧ Below B w0 W'
  | .ret, _, W' => KeepsOthers W W' ∧ Ix .ret xs W' ∧ Below B w0 W'
  | .exit id, _, W' => KeepsOthers W W' ∧ Ix (.exit id) xs W' ∧ Below B w0 W'
  | .goto t, _, W' => KeepsOthers W W' ∧ Ix (.goto t) xs W' ∧ Below B w0 W'
  | .panic _, _, _ => False
  | .outgrown, _, _ => False
/-- A range over a function whose rounds keep P, what the function reads. -/
theorem wp_range {α : Type} {g : Operand} {ps : Array Tmp} {assign body : Code} {Q : Exit → Act → World → Prop} {a : Act} {w : World} {gf : Nat} {lb : Array Value}
    (P : World → Prop) (hP : Stands P) (hg : a.eval g = .func (.func gf) #[] lb) (eg : ∀ args w, (callFunc gf args).run Try.prog w = .ok (.enter gf args) w)
    {encs : α → Array Value} {S Sp : List α → Prop} {N : Nat} (hseq : SeqStopsK Fence.wide 9 Try.prog gf lb encs (fun W W' => P W → P W') S Sp N w) (hps : ∀ x, (encs x).size = ps.size)
    (B : Nat) (w0 : World) (hB : B ≤ w0.heap.size) (I : List α → World → Prop) (Ix : Code → List α → World → Prop) (hI : ∀ s, Stands (I s)) (hIx : ∀ c s, Stands (Ix c s)) (h0 : I [] w) (hw0 : Below B w0 w) (a₁ : α → Act)
    (hassign : ∀ (l : Nat) (x : α) (W : World) (K : Act → World → Prop), K (a₁ x) W →
      assign.wpIn (Fence.wide.inRound l) 8 Try.prog (Exit.then K (fun _ _ _ => False)) { tmps := (ps.zip (encs x)).foldl (fun t (p, v) => t.setIfInBounds p v) a.tmps, defers := [] } W)
    (hbody : ∀ (l : Nat) (pre : List α) (x : α) (W : World), I pre W → Below B w0 W → body.wpIn (Fence.wide.inRound l) 8 Try.prog (rngPost P B w0 I Ix (pre ++ [x]) W) (a₁ x) W)
    (hdone : ∀ (D : Nat) (xs : List α) (W : World), w.heap.size ≤ D → S xs → I xs W → Below B w0 W → KeepsOthers w W → W.heap[D]? = some (.deferred (some [])) → Q .normal { a with defers := { target := .collected D, args := #[] } :: a.defers } W)
    (hstop : ∀ (D : Nat) (c : Code) (pre : List α) (W : World), w.heap.size ≤ D → Sp pre → Ix c pre W → Below B w0 W → KeepsOthers w W → W.heap[D]? = some (.deferred (some [])) → c.wp Try.prog Q { a with defers := { target := .collected D, args := #[] } :: a.defers } W) :
    (Code.rangeFunc g ps assign body).wp Try.prog Q a w := by
  have hob : OwnFrom w.heap.size (fun (_ : List α) W => Below B w0 W ∧ KeepsOthers w W) := fun s W W' row hs hg hr =>
    ⟨hs.1.grown hg (by have := hs.1.size; omega) (fun k e => by have := (hr k e).1; have := hw0.size; omega), Nat.le_trans hs.2.size hg.size, fun k o hk ho => by
      have h1 := hs.2.same k o hk ho
      refine (hg.block k (Array.getElem?_eq_some_iff.1 h1).1 (fun e => ?_)).trans h1
      have h2 := (hr k e.symm).1
      have h3 := (Array.getElem?_eq_some_iff.1 hk).1
      omega⟩
  refine wpIn_wide.1 (wpIn_rangeFunc_ownG (n := 10) rfl (by omega) hg trivial eg hseq (fun h k hp => k (h hp)) (fun W l o o' hl h1 h2 h3 => kp_b hP W l o o' hl h1 h2 h3) (Below.refl _ _) hps
    (fun s W => I s W ∧ Below B w0 W ∧ KeepsOthers w W) (fun c s W => Ix c s W ∧ Below B w0 W ∧ KeepsOthers w W) (OwnFrom.and (Own.from (Stands.owns hI) _) hob) (fun c => OwnFrom.and (Own.from (Stands.owns (hIx c)) _) hob) ⟨h0, hw0, KeepsOthers.refl _⟩ a₁ hassign
    (fun l pre x W hi _ => wpIn_mono (hbody l pre x W hi.1 hi.2.1) (fun e a' W' h => ?_)) (fun D xs W hD hS hi hK => hdone D xs W hD hS hi.1 hi.2.1 hi.2.2 hK) (fun D c pre W hD hS hi hK => wpIn_wide.2 (hstop D c pre W hD hS hi.1 hi.2.1 hi.2.2 hK)))
  cases e with
  | normal => exact ⟨h.1.from _, h.2.1, h.2.2.1, h.2.2.2, hi.2.2.trans h.1⟩
  | ret => exact ⟨h.1.from _, h.2.1, h.2.2, hi.2.2.trans h.1⟩
  | exit id => exact ⟨h.1.from _, h.2.1, h.2.2, hi.2.2.trans h.1⟩
  | goto t => exact ⟨h.1.from _, h.2.1, h.2.2, hi.2.2.trans h.1⟩
  | panic ch => exact h
  | outgrown => exact h

/-! Leaving a function behind such loops -/
def mkD (D : Nat) : Deferred := { target := .collected D, args := #[] }
def shut (Ds : List Nat) (w : World) : World := Ds.foldl (fun w D => w.putObj D (.deferred none)) w
theorem leave_marks {fn : Func} {tmps : Array Value} {R : Ending → World → Prop} : ∀ (Ds : List Nat) (w : World), Ds.Nodup → (∀ D ∈ Ds, w.heap[D]? = some (.deferred (some []))) →
    (∃ v, (results fn tmps).run Try.prog (shut Ds w) = .ok v (shut Ds w) ∧ R (.returned v) (shut Ds w)) → LeavesInM Fence.wide 10 Try.prog fn tmps R (Ds.map mkD) .returning w
  | [], w, _, _, h => h
  | D :: Ds, w, hn, hd, h => by
    refine ⟨by simp, .inl ⟨D, _, rfl, run_takeDeferred (hd D (by simp)), ?_⟩⟩
    have hn' := List.nodup_cons.1 hn
    exact leave_marks Ds _ hn'.2 (fun D' hD' => (World.putObj_heap_other (fun e => hn'.1 (by subst e; exact hD'))).trans (hd D' (by simp [hD']))) h
theorem shut_stands {P : World → Prop} (hP : Stands P) : ∀ (Ds : List Nat) (w : World), Ds.Nodup → (∀ D ∈ Ds, w.heap[D]? = some (.deferred (some []))) → P w → P (shut Ds w)
  | [], _, _, _, h => h
  | D :: Ds, w, hn, hd, h => by
    have hn' := List.nodup_cons.1 hn
    exact shut_stands hP Ds _ hn'.2 (fun D' hD' => (World.putObj_heap_other (fun e => hn'.1 (by subst e; exact hD'))).trans (hd D' (by simp [hD']))) (hP.put _ h (hd D (by simp)) rfl)
theorem shut_below {B : Nat} {w0 : World} : ∀ (Ds : List Nat) (w : World), Ds.Nodup → (∀ D ∈ Ds, w.heap[D]? = some (.deferred (some []))) → (∀ D ∈ Ds, B ≤ D) → Below B w0 w → Below B w0 (shut Ds w)
  | [], _, _, _, _, h => h
  | D :: Ds, w, hn, hd, hb, h => by
    have hn' := List.nodup_cons.1 hn
    refine shut_below Ds _ hn'.2 (fun D' hD' => (World.putObj_heap_other (fun e => hn'.1 (by subst e; exact hD'))).trans (hd D' (by simp [hD']))) (fun D' hD' => hb D' (by simp [hD'])) ?_
    have hlt := (Array.getElem?_eq_some_iff.1 (hd D (by simp))).1
    have hBD := hb D (by simp)
    exact h.grown (grownBy_putObj' w D _) (by omega) (fun k e => by cases e; exact hBD)
theorem box_later {W W' : World} {b : Nat} {t : TypeId} {v : Value} (h : Boxed W b t v) (hb : Below W.heap.size W W') : Boxed W' b t v := (hb.block b h.lt).trans h
theorem cell_results {fn : Func} {tmps : Array Value} {w : World} (p : Tmp) (t : TypeId) (b : Nat) (v : Bool) (hres : fn.results = #[.cell p t]) (ht : t = 4) (hp : tmps.getD p undef = .pointer (some ⟨b, 0, none⟩)) (hc : w.cell? ⟨b, 0, none⟩ = some (.bool v)) :
    (results fn tmps).run Try.prog w = .ok (.bool v) w := by
  subst ht
  have hp' : tmps[p]?.getD undef = .pointer (some ⟨b, 0, none⟩) := by simpa using hp
  simp [results, hres, go_sem, hp', hc]
theorem keeps_below {W X : World} (h : Below W.heap.size W X) : KeepsOthers W X := ⟨h.size, fun k _ hk _ => (h.block k (Array.getElem?_eq_some_iff.1 hk).1).trans hk⟩
theorem grown_c1 (w : World) (g i : Nat) (v : Value) : w.grownBy (w.setCell ⟨g, i, none⟩ v) (some g) :=
  ⟨rfl, rfl, rfl, (KeepsWalks.setCell w _ v).size, fun k _ hk => Below.heap_setCell _ _ _ k (fun e => hk (by rw [e]))⟩
end Go.Proofs.Ytafbkdpheneceaa
