import Derived.Test.YtafbkdpheneceaaQExq
import Derived.Test.YtafbkdpheneceaaQExa
import Derived.Test.YtafbkdpheneceaaQReli
namespace Go.Proofs.Ytafbkdpheneceaa
open Go.RowKit

/-! The game of ExtentScript: what lies where, by the marks of blocks. Marks: 0 the list of extents, 1 that of the document's, 2 the book, 3 the law's own boxes, 4 + 2 k the k-th pair, 5 + 2 k the k-th list that was answered. -/
structure P8 where
  vx : Value
  vr : Value
  st : XSt
/-- Nothing but blocks that are new to B and none of A has turned. -/
def KB (B : Nat) (A : List Nat) (w w' : World) : Prop := ∃ H, Keep H w w' ∧ ∀ q ∈ H, B ≤ q ∧ q ∉ A
theorem KB.of_below {B : Nat} {A : List Nat} {w w' : World} (h : Below w.heap.size w w') : KB B A w w' := ⟨[], Keep.of_below h, fun _ hq => by cases hq⟩
theorem KB.trans {B : Nat} {A : List Nat} {w w1 w2 : World} (h : KB B A w w1) (k : KB B A w1 w2) : KB B A w w2 := by
  obtain ⟨H, h1, h2⟩ := h
  obtain ⟨J, k1, k2⟩ := k
  refine ⟨H ++ J, (h1.mono (fun q hq => .inl (List.mem_append_left _ hq))).trans (k1.mono (fun q hq => .inl (List.mem_append_right _ hq))), fun q hq => ?_⟩
  rcases List.mem_append.1 hq with hq | hq
  · exact h2 q hq
  · exact k2 q hq
theorem kokB {B : Nat} {A : List Nat} : KOk (KB B A) := ⟨KB.of_below, KB.trans⟩
theorem KB.below {B : Nat} {A : List Nat} {w w' : World} (h : KB B A w w') (hB : B ≤ w.heap.size) : Below B w w' := by
  obtain ⟨H, h1, h2⟩ := h
  exact h1.below (fun q hq => (h2 q hq).1) hB
theorem KB.block {B : Nat} {A : List Nat} {w w' : World} (h : KB B A w w') {a : Nat} (ha : a ∈ A) (hl : a < w.heap.size) : w'.heap[a]? = w.heap[a]? := by
  obtain ⟨H, h1, h2⟩ := h
  exact h1.block a hl (fun hm => (h2 a hm).2 ha)
section
variable {X : World → Value → XSt → List Nat → Prop}
def HasX (X : World → Value → XSt → List Nat → Prop) (W : World) (B : Nat) (tag : Nat → Nat) (t : Nat) (v : Value) (st : XSt) : Prop := ∃ F, X W v st F ∧ ∀ q ∈ F, tag q = t ∧ B ≤ q
def HasP (X : World → Value → XSt → List Nat → Prop) (W : World) (B : Nat) (tag : Nat → Nat) (t : Nat) (p : P8) : Prop := ∃ F G, Both X W p.vx p.vr p.st F G ∧ (∀ q ∈ F, tag q = t ∧ B ≤ q) ∧ ∀ q ∈ G, tag q = t ∧ B ≤ q
def HasG (e : TypeId) (W : World) (B : Nat) (tag : Nat → Nat) (t : Nat) (v : Value) (xs : List Value) : Prop := OwnG e W B v xs ∧ ∀ q, v.ownBlock = some q → tag q = t
def HasK {α : Type} (E : EK α) (W : World) (B : Nat) (tag : Nat → Nat) (t : Nat) (v : Value) (ds : List α) : Prop := OwnK E W B v ds ∧ ∀ q, v.ownBlock = some q → tag q = t
/-- The marks of what was there stay; nothing but blocks of the mark u has turned. -/
structure TurnT (tag tag' : Nat → Nat) (u : Nat) (W W' : World) : Prop where
  on : ∀ q, q < W.heap.size → tag' q = tag q
  kp : ∃ H, Keep H W W' ∧ ∀ q ∈ H, q < W.heap.size → tag q = u
theorem HasX.turn (O : ExtOk X) {W W' : World} {B t u : Nat} {tag tag' : Nat → Nat} {v : Value} {st : XSt} (h : HasX X W B tag t v st) (hT : TurnT tag tag' u W W') (hne : t ≠ u) : HasX X W' B tag' t v st := by
  obtain ⟨F, h1, h2⟩ := h
  obtain ⟨hon, H, hK, hH⟩ := hT
  have hlt := O.lt h1
  exact ⟨F, O.keeps h1 hK (fun q hq hm => hne ((h2 q hq).1.symm.trans (hH q hm (hlt q hq)))), fun q hq => ⟨(hon q (hlt q hq)).trans (h2 q hq).1, (h2 q hq).2⟩⟩
theorem HasP.turn (O : ExtOk X) {W W' : World} {B t u : Nat} {tag tag' : Nat → Nat} {p : P8} (h : HasP X W B tag t p) (hT : TurnT tag tag' u W W') (hne : t ≠ u) : HasP X W' B tag' t p := by
  obtain ⟨F, G, h1, h2, h3⟩ := h
  obtain ⟨hon, H, hK, hH⟩ := hT
  have hlF := O.lt h1.x
  have hlG := h1.r.lt
  exact ⟨F, G, h1.keeps O hK (fun q hq hm => hne ((h2 q hq).1.symm.trans (hH q hm (hlF q hq)))) (fun q hq hm => hne ((h3 q hq).1.symm.trans (hH q hm (hlG q hq)))),
    fun q hq => ⟨(hon q (hlF q hq)).trans (h2 q hq).1, (h2 q hq).2⟩, fun q hq => ⟨(hon q (hlG q hq)).trans (h3 q hq).1, (h3 q hq).2⟩⟩
theorem HasG.turn {e : TypeId} {W W' : World} {B t u : Nat} {tag tag' : Nat → Nat} {v : Value} {xs : List Value} (h : HasG e W B tag t v xs) (hT : TurnT tag tag' u W W') (hne : t ≠ u) : HasG e W' B tag' t v xs := by
  obtain ⟨h1, h2⟩ := h
  obtain ⟨hon, H, hK, hH⟩ := hT
  exact ⟨OwnG.keeps8 h1 hK (fun q hq hm => hne ((h2 q hq).symm.trans (hH q hm (OwnG.lt h1 q hq).2))), fun q hq => (hon q (OwnG.lt h1 q hq).2).trans (h2 q hq)⟩
theorem ownK_lt8 {α : Type} {E : EK α} {w : World} {B : Nat} {v : Value} {ds : List α} (h : OwnK E w B v ds) : ∀ k, v.ownBlock = some k → B ≤ k ∧ k < w.heap.size := World.ownsRow.lt h
theorem HasK.turn {α : Type} {E : EK α} {W W' : World} {B t u : Nat} {tag tag' : Nat → Nat} {v : Value} {ds : List α} (h : HasK E W B tag t v ds) (hT : TurnT tag tag' u W W') (hne : t ≠ u) : HasK E W' B tag' t v ds := by
  obtain ⟨h1, h2⟩ := h
  obtain ⟨hon, H, hK, hH⟩ := hT
  exact ⟨h1.keeps hK (fun q hq hm => hne ((h2 q hq).symm.trans (hH q hm (ownK_lt8 h1 q hq).2))), fun q hq => (hon q (ownK_lt8 h1 q hq).2).trans (h2 q hq)⟩
structure Gm (X : World → Value → XSt → List Nat → Prop) (W : World) (B : Nat) (A : List Nat) (tag : Nat → Nat) (xs rs bk : Value) (vxs vrs : List Value) (ps : List P8) (pgs : List Pg) (E : Nat → Option (Sl3 × List Pr)) : Prop where
  base : B ≤ W.heap.size
  own : ∀ a ∈ A, a < W.heap.size ∧ tag a < 4 ∧ tag a ≠ 2
  pair : ∀ (k : Nat) p, ps[k]? = some p → HasP X W B tag (4 + 2 * k) p
  xs : HasG 23 W B tag 0 xs vxs
  rs : HasG 42 W B tag 1 rs vrs
  bk : HasK pgE W B tag 2 bk pgs
  lst : ∀ k s L, E k = some (s, L) → HasK prE W B tag (5 + 2 * k) s.v L ∧ L.length = s.n
variable {W W' : World} {B : Nat} {A : List Nat} {tag tag' : Nat → Nat} {xs rs bk : Value} {vxs vrs : List Value} {ps : List P8} {pgs : List Pg} {E : Nat → Option (Sl3 × List Pr)}
theorem TurnT.size {u : Nat} (h : TurnT tag tag' u W W') : W.heap.size ≤ W'.heap.size := by
  obtain ⟨_, H, hK, _⟩ := h
  exact hK.size
/-- Memory grows. -/
theorem Gm.later (O : ExtOk X) (h : Gm X W B A tag xs rs bk vxs vrs ps pgs E) (hb : Below W.heap.size W W') : Gm X W' B A tag xs rs bk vxs vrs ps pgs E := by
  have hT : ∀ u, TurnT tag tag u W W' := fun u => ⟨fun _ _ => rfl, [], Keep.of_below hb, fun _ hq => by cases hq⟩
  exact ⟨Nat.le_trans h.base hb.size, fun a ha => ⟨Nat.lt_of_lt_of_le (h.own a ha).1 hb.size, (h.own a ha).2⟩, fun k p hp => (h.pair k p hp).turn O (hT 0) (by omega), h.xs.turn (hT 1) (by omega), h.rs.turn (hT 0) (by omega), h.bk.turn (hT 0) (by omega), fun k s L hk => ⟨(h.lst k s L hk).1.turn (hT 0) (by omega), (h.lst k s L hk).2⟩⟩
/-- One pair has turned. -/
theorem Gm.turn (O : ExtOk X) (h : Gm X W B A tag xs rs bk vxs vrs ps pgs E) {k : Nat} {p' : P8} (hT : TurnT tag tag' (4 + 2 * k) W W') (hp : HasP X W' B tag' (4 + 2 * k) p') : Gm X W' B A tag' xs rs bk vxs vrs (ps.set k p') pgs E := by
  refine ⟨Nat.le_trans h.base hT.size, fun a ha => ⟨Nat.lt_of_lt_of_le (h.own a ha).1 hT.size, by rw [hT.on a (h.own a ha).1]; exact (h.own a ha).2⟩, fun j q hq => ?_, h.xs.turn hT (by omega), h.rs.turn hT (by omega), h.bk.turn hT (by omega), fun j s L hj => ⟨(h.lst j s L hj).1.turn hT (by omega), (h.lst j s L hj).2⟩⟩
  by_cases hjk : k = j
  · subst hjk
    rw [List.getElem?_set] at hq
    simp only [if_true] at hq
    split at hq
    · cases hq; exact hp
    · cases hq
  · rw [List.getElem?_set_ne hjk] at hq
    exact (h.pair j q hq).turn O hT (by omega)
def retag (n : Nat) (tag : Nat → Nat) (new : Nat → Nat) : Nat → Nat := fun q => if q < n then tag q else new q
theorem retag_old {n : Nat} {tag new : Nat → Nat} {q : Nat} (h : q < n) : retag n tag new q = tag q := by unfold retag; rw [if_pos h]
theorem retag_new {n : Nat} {tag new : Nat → Nat} {q : Nat} (h : n ≤ q) : retag n tag new q = new q := by unfold retag; rw [if_neg (by omega)]
/-- Both of a pair have been called. -/
theorem Gm.acts (O : ExtOk X) (h : Gm X W B A tag xs rs bk vxs vrs ps pgs E) {k : Nat} {p : P8} (hp : ps[k]? = some p) {st' : XSt} (hS : ∀ F G, Both X W p.vx p.vr p.st F G → BStep X F G W p.vx p.vr st' W') : ∃ tag', Gm X W' B A tag' xs rs bk vxs vrs (ps.set k { p with st := st' }) pgs E ∧ KB B A W W' ∧ TurnT tag tag' (4 + 2 * k) W W' := by
  obtain ⟨F, G, h1, h2, h3⟩ := h.pair k p hp
  obtain ⟨F', G', b1, b2, b3, b4⟩ := hS F G h1
  have hT : TurnT tag (retag W.heap.size tag (fun _ => 4 + 2 * k)) (4 + 2 * k) W W' := ⟨fun q hq => retag_old hq, F ++ G, b4, fun q hq _ => by
    rcases List.mem_append.1 hq with hq | hq
    · exact (h2 q hq).1
    · exact (h3 q hq).1⟩
  have hnew : ∀ (F F' : List Nat), (∀ q ∈ F, tag q = 4 + 2 * k ∧ B ≤ q) → (∀ q ∈ F', q ∈ F ∨ W.heap.size ≤ q) → ∀ q ∈ F', retag W.heap.size tag (fun _ => 4 + 2 * k) q = 4 + 2 * k ∧ B ≤ q := fun F F' hF hF' q hq => by
    have hB := h.base
    rcases hF' q hq with h9 | h9
    · refine ⟨?_, (hF q h9).2⟩
      unfold retag
      split
      · exact (hF q h9).1
      · rfl
    · exact ⟨retag_new h9, by omega⟩
  refine ⟨_, h.turn O (p' := { p with st := st' }) hT ⟨F', G', b1, hnew F F' h2 b2, hnew G G' h3 b3⟩, ⟨F ++ G, b4, fun q hq => ?_⟩, hT⟩
  rcases List.mem_append.1 hq with hq | hq
  · exact ⟨(h2 q hq).2, fun ha => by have := (h.own q ha).2; have := (h2 q hq).1; omega⟩
  · exact ⟨(h3 q hq).2, fun ha => by have := (h.own q ha).2; have := (h3 q hq).1; omega⟩
/-- Only the landed one of a pair has been called. -/
theorem Gm.actX (O : ExtOk X) (h : Gm X W B A tag xs rs bk vxs vrs ps pgs E) {k : Nat} {p : P8} (hp : ps[k]? = some p) (hS : ∀ F, X W p.vx p.st F → XStep X F W p.vx p.st W') : ∃ tag', Gm X W' B A tag' xs rs bk vxs vrs ps pgs E ∧ KB B A W W' ∧ TurnT tag tag' (4 + 2 * k) W W' := by
  have := h.acts (W' := W') O hp (st' := p.st) (fun F G hb => by
    obtain ⟨F', f1, f2, f3⟩ := hS F hb.x
    have hlG := hb.r.lt
    refine ⟨F', G, ⟨f1, hb.r.keeps f3 (fun q hq hm => hb.apart q hm hq), fun q hq hm => ?_⟩, f2, fun q hq => .inl hq, f3.mono (fun q hq => .inl (List.mem_append_left _ hq))⟩
    rcases f2 q hq with h9 | h9
    · exact hb.apart q h9 hm
    · have := hlG q hm; omega)
  have e : ps.set k { p with st := p.st } = ps := by
    apply List.ext_getElem?
    intro j
    rw [List.getElem?_set]
    split
    · rename_i hj; subst hj
      split
      · exact hp.symm
      · rename_i hj; rw [List.getElem?_eq_none (by omega)]
    · rfl
  rw [e] at this
  exact this
def updE (E : Nat → Option (Sl3 × List Pr)) (j : Nat) (s : Sl3) (L : List Pr) : Nat → Option (Sl3 × List Pr) := fun k => if k = j then some (s, L) else E k
/-- The landed one has told its ranges: one list more. -/
theorem Gm.ranges (O : ExtOk X) (h : Gm X W B A tag xs rs bk vxs vrs ps pgs E) {k : Nat} {p : P8} (hp : ps[k]? = some p) (j : Nat) :
    Calls Try.prog 10 #[p.vx] W fun e w' => ∃ s tag', e = .returned (Sl3.v s) ∧ Gm X w' B A tag' xs rs bk vxs vrs ps pgs (updE E j s (rI (xRuns p.st))) ∧ KB B A W w' := by
  obtain ⟨F, G, h1, h2, h3⟩ := h.pair k p hp
  refine (O.ranges W p.vx p.st F h1.x).mono ?_
  rintro e w' ⟨y, c, F', rfl, f1, f2, f3, f4, f5⟩
  have hB := h.base
  have hlG := h1.r.lt
  refine ⟨⟨y, (xRuns p.st).length, c⟩, retag W.heap.size tag (fun q => if (Value.slice y (xRuns p.st).length c).ownBlock = some q then 5 + 2 * j else 4 + 2 * k), rfl, ?_, ⟨F, f5, fun q hq => ⟨(h2 q hq).2, fun ha => by have := (h.own q ha).2; have := (h2 q hq).1; omega⟩⟩⟩
  have hT : TurnT tag (retag W.heap.size tag (fun q => if (Value.slice y (xRuns p.st).length c).ownBlock = some q then 5 + 2 * j else 4 + 2 * k)) (4 + 2 * k) W w' := ⟨fun q hq => retag_old hq, F, f5, fun q hq _ => (h2 q hq).1⟩
  have hP : HasP X w' B (retag W.heap.size tag (fun q => if (Value.slice y (xRuns p.st).length c).ownBlock = some q then 5 + 2 * j else 4 + 2 * k)) (4 + 2 * k) p := by
    refine ⟨F', G, ⟨f2, h1.r.keeps f5 (fun q hq hm => h1.apart q hm hq), fun q hq hm => ?_⟩, fun q hq => ?_, fun q hq => ⟨(retag_old (hlG q hq)).trans (h3 q hq).1, (h3 q hq).2⟩⟩
    · rcases f3 q hq with h9 | h9
      · exact h1.apart q h9 hm
      · have := hlG q hm; omega
    · rcases Nat.lt_or_ge q W.heap.size with h8 | h8
      · rcases f3 q hq with h9 | h9
        · exact ⟨(retag_old h8).trans (h2 q h9).1, (h2 q h9).2⟩
        · omega
      · refine ⟨?_, by omega⟩
        rw [retag_new h8, if_neg (fun e9 => f4 q e9 hq)]
  have g := h.turn O hT hP
  have e : ps.set k p = ps := by
    apply List.ext_getElem?
    intro i
    rw [List.getElem?_set]
    split
    · rename_i hj; subst hj
      split
      · exact hp.symm
      · rename_i hj; rw [List.getElem?_eq_none (by omega)]
    · rfl
  rw [e] at g
  refine ⟨g.base, g.own, g.pair, g.xs, g.rs, g.bk, fun i s L hi => ?_⟩
  unfold updE at hi
  split at hi
  · rename_i hij; subst hij
    cases hi
    refine ⟨⟨f1.le hB, fun q hq => ?_⟩, rI_len _⟩
    have := (ownK_lt8 f1 q hq).1
    rw [retag_new this]
    exact if_pos hq
  · exact g.lst i s L hi
/-- One list more, in new memory. -/
theorem Gm.list (O : ExtOk X) (h : Gm X W B A tag xs rs bk vxs vrs ps pgs E) (j : Nat) (s : Sl3) (L : List Pr) (hb : Below W.heap.size W W') (hO : OwnK prE W' W.heap.size s.v L) (hl : L.length = s.n) : Gm X W' B A (retag W.heap.size tag (fun _ => 5 + 2 * j)) xs rs bk vxs vrs ps pgs (updE E j s L) := by
  have hB := h.base
  have hT : ∀ u, TurnT tag (retag W.heap.size tag (fun _ => 5 + 2 * j)) u W W' := fun u => ⟨fun q hq => retag_old hq, [], Keep.of_below hb, fun _ hq => by cases hq⟩
  refine ⟨Nat.le_trans hB hb.size, fun a ha => ⟨Nat.lt_of_lt_of_le (h.own a ha).1 hb.size, by rw [retag_old (h.own a ha).1]; exact (h.own a ha).2⟩, fun k p hp => (h.pair k p hp).turn O (hT 0) (by omega), h.xs.turn (hT 1) (by omega), h.rs.turn (hT 0) (by omega), h.bk.turn (hT 0) (by omega), fun i s' L' hi => ?_⟩
  unfold updE at hi
  split at hi
  · rename_i hij; subst hij
    cases hi
    exact ⟨⟨hO.le hB, fun q hq => retag_new (ownK_lt8 hO q hq).1⟩, hl⟩
  · exact ⟨(h.lst i s' L' hi).1.turn (hT 0) (by omega), (h.lst i s' L' hi).2⟩
theorem Gm.refRanges (O : ExtOk X) (h : Gm X W B A tag xs rs bk vxs vrs ps pgs E) {k : Nat} {p : P8} (hp : ps[k]? = some p) (j : Nat) :
    Calls Try.prog 17 #[p.vr] W fun e w' => ∃ s tag', e = .returned (Sl3.v s) ∧ Gm X w' B A tag' xs rs bk vxs vrs ps pgs (updE E j s (rI (xRuns p.st))) ∧ KB B A W w' := by
  obtain ⟨F, G, h1, h2, h3⟩ := h.pair k p hp
  refine (refRanges8 W p.vr p.st G h1.r).mono ?_
  rintro e w' ⟨y, c, rfl, f1, f2⟩
  exact ⟨⟨y, (xRuns p.st).length, c⟩, _, rfl, h.list O j ⟨y, (xRuns p.st).length, c⟩ _ f2 f1 (rI_len _), KB.of_below f2⟩
/-- append(v, u): what it turns, and where the answer lies. -/
theorem app1W {t e : TypeId} {bytes : Nat} (EL : Elt t e bytes) (W : World) (B : Nat) (xv : Option Addr) (nv cv : Nat) (ds : List Value) (u : Value) (ty : TypeId) (h : OwnG e W B (.slice xv nv cv) ds) (hn : ds.length = nv) (hu : u.oneCell' = true) (hB : B ≤ W.heap.size) (hl : (nv + 1) * bytes ≤ 140737488355328) (h63 : nv + 1 ≤ maxLen) :
    ∃ g c' w', (Builtin.append_ #[t, t] ty #[.slice xv nv cv, .slice (some ⟨W.heap.size, 0, none⟩) 1 1]).run Try.prog (W.alloc (.cells #[u] e)) = .ok (.slice (some ⟨g, 0, none⟩) (nv + 1) c') w' ∧ OwnG e w' B (.slice (some ⟨g, 0, none⟩) (nv + 1) c') (ds ++ [u]) ∧ Keep (Value.slice xv nv cv).ownBlock.toList W w' ∧ ((Value.slice xv nv cv).ownBlock = some g ∨ W.heap.size ≤ g) := by
  subst hn
  have hA := below_alloc W (.cells #[u] e)
  obtain ⟨i, z, hi, hz, hsz, hby, hzs⟩ := EL.info
  have hcell : (W.alloc (.cells #[u] e)).cell? ⟨W.heap.size, 0, none⟩ = some u := cell_of_row _ _ 0 _ _ _ (heap_alloc_last W _)
  obtain ⟨g, c', w', hr, hO, hg, hway, hlt⟩ := run_append_lies (P := Try.prog) (W.alloc (.cells #[u] e)) t ty B e i z 1 bytes EL.ht hi hz hsz hby hzs (by omega) (.slice xv ds.length cv) ds.length ds (h.keep hA) ⟨W.heap.size, 0, none⟩ 1 1 [u] (by simp) (fun j u' hu' => by
    rcases j with _ | j
    · simp at hu'; subst hu'; rw [addr_add]; exact hcell
    · simp at hu') (by simpa using hu) (by simp) h63 hl (by simp; omega) _ rfl
  refine ⟨g, c', w', hr, by unfold OwnG; rw [List.length_append]; exact hO, (Keep.of_below hA).trans (Keep.of_grown hg (fun q hq => by rw [hq]; simp)), ?_⟩
  rcases hway with h1 | h1
  · exact .inl h1
  · right; rw [World.size_alloc] at h1; omega
/-- The mark u's own list is written. -/
theorem turn_own {u : Nat} {v : Value} (hv : ∀ q, v.ownBlock = some q → tag q = u) (hK : Keep v.ownBlock.toList W W') : TurnT tag (retag W.heap.size tag (fun _ => u)) u W W' :=
  ⟨fun q hq => retag_old hq, _, hK, fun q hq _ => hv q (by simpa using hq)⟩
theorem own_new {u g n c : Nat} {v : Value} (hv : ∀ q, v.ownBlock = some q → tag q = u) (hg : v.ownBlock = some g ∨ W.heap.size ≤ g) : ∀ q, (Value.slice (some ⟨g, 0, none⟩) n c).ownBlock = some q → retag W.heap.size tag (fun _ => u) q = u := by
  intro q hq
  have e : g = q := by simpa [Value.ownBlock] using hq
  subst e
  unfold retag
  split
  · rename_i h9
    rcases hg with h8 | h8
    · exact hv g h8
    · omega
  · rfl
/-- One page more. -/
theorem Gm.page (O : ExtOk X) (h : Gm X W B A tag xs rs bk vxs vrs ps pgs E) {g n c : Nat} {pgs' : List Pg} (hK : Keep bk.ownBlock.toList W W') (hO : OwnK pgE W' B (.slice (some ⟨g, 0, none⟩) n c) pgs') (hg : bk.ownBlock = some g ∨ W.heap.size ≤ g) :
    Gm X W' B A (retag W.heap.size tag (fun _ => 2)) xs rs (.slice (some ⟨g, 0, none⟩) n c) vxs vrs ps pgs' E := by
  have hT := turn_own (W := W) (W' := W') h.bk.2 hK
  exact ⟨Nat.le_trans h.base hT.size, fun a ha => ⟨Nat.lt_of_lt_of_le (h.own a ha).1 hT.size, by rw [hT.on a (h.own a ha).1]; exact (h.own a ha).2⟩, fun j q hq => (h.pair j q hq).turn O hT (by omega), h.xs.turn hT (by omega), h.rs.turn hT (by omega), ⟨hO, own_new h.bk.2 hg⟩, fun j s L hj => ⟨(h.lst j s L hj).1.turn hT (by omega), (h.lst j s L hj).2⟩⟩
/-- The list of extents is written. -/
theorem Gm.listX (O : ExtOk X) (h : Gm X W B A tag xs rs bk vxs vrs ps pgs E) (hA : ∀ a ∈ A, tag a ≠ 0) {g n c : Nat} {vxs' : List Value} (hK : Keep xs.ownBlock.toList W W') (hO : OwnG 23 W' B (.slice (some ⟨g, 0, none⟩) n c) vxs') (hg : xs.ownBlock = some g ∨ W.heap.size ≤ g) :
    Gm X W' B A (retag W.heap.size tag (fun _ => 0)) (.slice (some ⟨g, 0, none⟩) n c) rs bk vxs' vrs ps pgs E ∧ KB B A W W' ∧ TurnT tag (retag W.heap.size tag (fun _ => 0)) 0 W W' := by
  have hT := turn_own (W := W) (W' := W') h.xs.2 hK
  refine ⟨⟨Nat.le_trans h.base hT.size, fun a ha => ⟨Nat.lt_of_lt_of_le (h.own a ha).1 hT.size, by rw [hT.on a (h.own a ha).1]; exact (h.own a ha).2⟩, fun j q hq => (h.pair j q hq).turn O hT (by omega), ⟨hO, own_new h.xs.2 hg⟩, h.rs.turn hT (by omega), h.bk.turn hT (by omega), fun j s L hj => ⟨(h.lst j s L hj).1.turn hT (by omega), (h.lst j s L hj).2⟩⟩, ⟨_, hK, fun q hq => ?_⟩, hT⟩
  have hq' : xs.ownBlock = some q := by simpa using hq
  exact ⟨(OwnG.lt h.xs.1 q hq').1, fun ha => hA q ha (h.xs.2 q hq')⟩
/-- The list of the document's is written. -/
theorem Gm.listR (O : ExtOk X) (h : Gm X W B A tag xs rs bk vxs vrs ps pgs E) (hA : ∀ a ∈ A, tag a ≠ 1) {g n c : Nat} {vrs' : List Value} (hK : Keep rs.ownBlock.toList W W') (hO : OwnG 42 W' B (.slice (some ⟨g, 0, none⟩) n c) vrs') (hg : rs.ownBlock = some g ∨ W.heap.size ≤ g) :
    Gm X W' B A (retag W.heap.size tag (fun _ => 1)) xs (.slice (some ⟨g, 0, none⟩) n c) bk vxs vrs' ps pgs E ∧ KB B A W W' ∧ TurnT tag (retag W.heap.size tag (fun _ => 1)) 1 W W' := by
  have hT := turn_own (W := W) (W' := W') h.rs.2 hK
  refine ⟨⟨Nat.le_trans h.base hT.size, fun a ha => ⟨Nat.lt_of_lt_of_le (h.own a ha).1 hT.size, by rw [hT.on a (h.own a ha).1]; exact (h.own a ha).2⟩, fun j q hq => (h.pair j q hq).turn O hT (by omega), h.xs.turn hT (by omega), ⟨hO, own_new h.rs.2 hg⟩, h.bk.turn hT (by omega), fun j s L hj => ⟨(h.lst j s L hj).1.turn hT (by omega), (h.lst j s L hj).2⟩⟩, ⟨_, hK, fun q hq => ?_⟩, hT⟩
  have hq' : rs.ownBlock = some q := by simpa using hq
  exact ⟨(OwnG.lt h.rs.1 q hq').1, fun ha => hA q ha (h.rs.2 q hq')⟩
theorem set_self8 {k : Nat} {p : P8} (hp : ps[k]? = some p) : ps.set k p = ps := by
  apply List.ext_getElem?
  intro i
  rw [List.getElem?_set]
  split
  · rename_i hj; subst hj
    split
    · exact hp.symm
    · rename_i hj; rw [List.getElem?_eq_none (by omega)]
  · rfl
/-- The landed one's copy, of the mark of the next pair. -/
theorem Gm.copyX (O : ExtOk X) (h : Gm X W B A tag xs rs bk vxs vrs ps pgs E) {k : Nat} {p : P8} (hp : ps[k]? = some p) (t : Nat) :
    Calls Try.prog 18 #[p.vx] W fun e w' => ∃ v' tag', e = .returned v' ∧ Gm X w' B A tag' xs rs bk vxs vrs ps pgs E ∧ HasX X w' B tag' t v' p.st ∧ KB B A W w' := by
  obtain ⟨F, G, h1, h2, h3⟩ := h.pair k p hp
  refine (O.copy W p.vx p.st F h1.x).mono ?_
  rintro e w' ⟨v', F', F'', rfl, f1, f2, f3, f4, f5⟩
  have hB := h.base
  have hlG := h1.r.lt
  have hT : TurnT tag (retag W.heap.size tag (fun q => if q ∈ F'' then t else 4 + 2 * k)) (4 + 2 * k) W w' := ⟨fun q hq => retag_old hq, F, f5, fun q hq _ => (h2 q hq).1⟩
  have hP : HasP X w' B (retag W.heap.size tag (fun q => if q ∈ F'' then t else 4 + 2 * k)) (4 + 2 * k) p := by
    refine ⟨F', G, ⟨f1, h1.r.keeps f5 (fun q hq hm => h1.apart q hm hq), fun q hq hm => ?_⟩, fun q hq => ?_, fun q hq => ⟨(retag_old (hlG q hq)).trans (h3 q hq).1, (h3 q hq).2⟩⟩
    · rcases f3 q hq with h9 | h9
      · exact h1.apart q h9 hm
      · have := hlG q hm; omega
    · rcases Nat.lt_or_ge q W.heap.size with h8 | h8
      · rcases f3 q hq with h9 | h9
        · exact ⟨(retag_old h8).trans (h2 q h9).1, (h2 q h9).2⟩
        · omega
      · refine ⟨?_, by omega⟩
        rw [retag_new h8, if_neg (fun e9 => (f4 q e9).2 hq)]
  have g := h.turn O hT hP
  rw [set_self8 hp] at g
  refine ⟨v', _, rfl, g, ⟨F'', f2, fun q hq => ⟨?_, by have := (f4 q hq).1; omega⟩⟩, ⟨F, f5, fun q hq => ⟨(h2 q hq).2, fun ha => by have := (h.own q ha).2; have := (h2 q hq).1; omega⟩⟩⟩
  rw [retag_new (f4 q hq).1, if_pos hq]
/-- The document's copy makes the new pair whole. -/
theorem Gm.copyR (O : ExtOk X) (h : Gm X W B A tag xs rs bk vxs vrs ps pgs E) {k : Nat} {p : P8} (hp : ps[k]? = some p) {vx : Value} (hX : HasX X W B tag (4 + 2 * ps.length) vx p.st) :
    Calls Try.prog 19 #[p.vr] W fun e w' => ∃ vr tag', e = .returned vr ∧ Gm X w' B A tag' xs rs bk vxs vrs (ps ++ [⟨vx, vr, p.st⟩]) pgs E ∧ Below W.heap.size W w' := by
  obtain ⟨F, G, h1, h2, h3⟩ := h.pair k p hp
  refine (refCopy8 W p.vr p.st G h1.r).mono ?_
  rintro e w' ⟨v', G', rfl, f1, f2, f3⟩
  have hB := h.base
  have hT : ∀ u, TurnT tag (retag W.heap.size tag (fun _ => 4 + 2 * ps.length)) u W w' := fun u => ⟨fun q hq => retag_old hq, [], Keep.of_below f3, fun _ hq => by cases hq⟩
  refine ⟨v', _, rfl, ⟨Nat.le_trans hB f3.size, fun a ha => ⟨Nat.lt_of_lt_of_le (h.own a ha).1 f3.size, by rw [retag_old (h.own a ha).1]; exact (h.own a ha).2⟩, fun j q hq => ?_, h.xs.turn (hT 1) (by omega), h.rs.turn (hT 0) (by omega), h.bk.turn (hT 0) (by omega), fun i s' L' hi => ⟨(h.lst i s' L' hi).1.turn (hT 0) (by omega), (h.lst i s' L' hi).2⟩⟩, f3⟩
  rw [List.getElem?_append] at hq
  split at hq
  · exact (h.pair j q hq).turn O (hT 0) (by omega)
  · rename_i hj
    have e : j = ps.length := by
      rcases Nat.lt_or_ge ps.length j with h9 | h9
      · rw [List.getElem?_eq_none (by simp; omega)] at hq; cases hq
      · omega
    subst e
    simp at hq
    subst hq
    obtain ⟨F9, x1, x2⟩ := hX
    have hlx := O.lt x1
    refine ⟨F9, G', ⟨O.keeps (G := []) x1 (Keep.of_below f3) (fun _ _ => by simp), f1, fun q hq hm => by have := hlx q hq; have := f2 q hm; omega⟩, fun q hq => ⟨(retag_old (hlx q hq)).trans (x2 q hq).1, (x2 q hq).2⟩, fun q hq => ⟨retag_new (f2 q hq), by have := f2 q hq; omega⟩⟩
end
end Go.Proofs.Ytafbkdpheneceaa
namespace Go.Proofs.Ytafbkdpheneceaa
open Go.RowKit

/-! The book's pages among the lists that were answered -/
theorem runs_len8 (st : XSt) (h : st.fr ≤ st.hi ∧ st.hi ≤ 1024) : (rI (xRuns st)).length ≤ 2000 := by
  rw [rI_len]
  unfold xRuns
  rcases rises_len (runs_rises st.f (st.hi - st.fr) st.fr) with hz | hz
  · rw [hz]; simp
  · omega
structure PgsE (pgs : List Pg) (ls : Nat → List Pr) (E : Nat → Option (Sl3 × List Pr)) : Prop where
  at' : ∀ (i : Nat) q, pgs[i]? = some q → E (3 * i) = some (q.a, ls i) ∧ E (3 * i + 1) = some (q.b, ls i) ∧ E (3 * i + 2) = some (q.w, ls i)
  len : ∀ i, (ls i).length ≤ 2000
theorem PgsE.nil : PgsE [] (fun _ => []) (fun _ => none) := ⟨fun i q h => by simp at h, fun _ => by simp⟩
theorem PgsE.snoc {pgs : List Pg} {ls : Nat → List Pr} {E : Nat → Option (Sl3 × List Pr)} (h : PgsE pgs ls E) (a b c : Sl3) (L : List Pr) (hL : L.length ≤ 2000) :
    PgsE (pgs ++ [⟨a, b, c⟩]) (fun i => if i = pgs.length then L else ls i) (updE (updE (updE E (3 * pgs.length) a L) (3 * pgs.length + 1) b L) (3 * pgs.length + 2) c L) := by
  refine ⟨fun i q hq => ?_, fun i => ?_⟩
  · rw [List.getElem?_append] at hq
    split at hq
    · rename_i hi
      obtain ⟨h1, h2, h3⟩ := h.at' i q hq
      unfold updE
      rw [if_neg (by omega), if_neg (by omega), if_neg (by omega), if_neg (by omega), if_neg (by omega), if_neg (by omega), if_neg (by omega), if_neg (by omega), if_neg (by omega), if_neg (by omega)]
      exact ⟨h1, h2, h3⟩
    · rename_i hi
      have e : i = pgs.length := by
        rcases Nat.lt_or_ge pgs.length i with h9 | h9
        · rw [List.getElem?_eq_none (by simp; omega)] at hq; cases hq
        · omega
      subst e
      simp at hq
      subst hq
      refine ⟨?_, ?_, ?_⟩ <;> simp [updE]
  · show (if i = pgs.length then L else ls i).length ≤ 2000
    split
    · exact hL
    · exact h.len i
section
variable {X : World → Value → XSt → List Nat → Prop} {W : World} {B : Nat} {A : List Nat} {tag : Nat → Nat} {xs rs bk : Value} {vxs vrs : List Value} {ps : List P8} {pgs : List Pg} {E : Nat → Option (Sl3 × List Pr)} {ls : Nat → List Pr}
theorem Gm.fam (h : Gm X W B A tag xs rs bk vxs vrs ps pgs E) (hE : PgsE pgs ls E) : Fam W B (2 * pgs.length) (sP pgs) (fun k => ls (k / 2)) (fun k => (sP pgs k).v.ownBlock.toList) := by
  have key : ∀ k, k < 2 * pgs.length → HasK prE W B tag (5 + 2 * (3 * (k / 2) + k % 2)) (sP pgs k).v (ls (k / 2)) ∧ (ls (k / 2)).length = (sP pgs k).n := by
    intro k hk
    have hk2 : k / 2 < pgs.length := by omega
    obtain ⟨q, hq⟩ : ∃ q, pgs[k / 2]? = some q := ⟨_, List.getElem?_eq_getElem hk2⟩
    obtain ⟨h1, h2, h3⟩ := hE.at' _ q hq
    unfold sP
    rw [hq]
    by_cases hz : k % 2 = 0
    · have := h.lst _ _ _ h1
      simp only [hz, Nat.add_zero]
      exact this
    · have := h.lst _ _ _ h2
      simp only [if_neg hz]
      rw [show k % 2 = 1 by omega]
      exact this
  refine ⟨fun k hk => (key k hk).1.1, fun k hk => (key k hk).2, fun k hk q hq => by simp [hq], fun k hk q hq => ?_, fun k j hk hj hne q hq hm => ?_⟩
  · have := ownK_lt8 (key k hk).1.1 q (by simpa using hq)
    exact ⟨this.2, this.1⟩
  · have e1 := (key k hk).1.2 q (by simpa using hq)
    have e2 := (key j hj).1.2 q (by simpa using hm)
    omega
theorem Gm.want (h : Gm X W B A tag xs rs bk vxs vrs ps pgs E) (hE : PgsE pgs ls E) : ∀ (i : Nat) q, pgs[i]? = some q → IsK prE W q.w.v (ls i) ∧ (ls i).length = q.w.n := fun i q hq => by
  have := h.lst _ _ _ (hE.at' i q hq).2.2
  exact ⟨this.1.1.isK prE_ok, this.2⟩
end
end Go.Proofs.Ytafbkdpheneceaa
namespace Go.Proofs.Ytafbkdpheneceaa
open Go.RowKit

/-! What holds between the rounds of ExtentScript -/
def Inv8 (X : World → Value → XSt → List Nat → Prop) (B : Nat) (A : List Nat) (wr : World) (xv rv bv : Value) (i : Nat) (n : Nat) : Prop := ∃ (xa ra xb : Option Addr) (ca cr pb cb : Nat) (ps : List P8) (pgs : List Pg) (ls : Nat → List Pr) (E : Nat → Option (Sl3 × List Pr)) (tag : Nat → Nat),
  xv = .slice xa n ca ∧ rv = .slice ra n cr ∧ bv = .slice xb pb cb ∧ ps.length = n ∧ 1 ≤ n ∧ n ≤ 4 ∧ pgs.length = pb ∧ pb ≤ i ∧ Gm X wr B A tag xv rv bv (ps.map P8.vx) (ps.map P8.vr) ps pgs E ∧ PgsE pgs ls E
theorem inv8_start {X : World → Value → XSt → List Nat → Prop} (O : ExtOk X) {w w1 w2 w3 : World} {ad rd : Addr} {st : XSt} {F G : List Nat} (h1 : Below w.heap.size w w1) (h2 : Below w1.heap.size w1 w2) (h3 : Below w2.heap.size w2 w3) (hX : X w1 (.pointer (some ad)) st F) (hF : ∀ q ∈ F, w.heap.size ≤ q) (hR : R8 w2 (.pointer (some rd)) st G) (hG : ∀ q ∈ G, w1.heap.size ≤ q) :
    Inv8 X w.heap.size [] ((w3.alloc (.cells #[.pointer (some ad)] 23)).alloc (.cells #[.pointer (some rd)] 42)) (.slice (some ⟨w3.heap.size, 0, none⟩) 1 1) (.slice (some ⟨w3.heap.size + 1, 0, none⟩) 1 1) (.slice none 0 0) 0 1 ∧
    Below w.heap.size w ((w3.alloc (.cells #[.pointer (some ad)] 23)).alloc (.cells #[.pointer (some rd)] 42)) := by
  have a1 := below_alloc w3 (.cells #[.pointer (some ad)] 23)
  have a2 := below_alloc (w3.alloc (.cells #[.pointer (some ad)] 23)) (.cells #[.pointer (some rd)] 42)
  have s1 : (w3.alloc (.cells #[.pointer (some ad)] 23)).heap.size = w3.heap.size + 1 := World.size_alloc _ _
  have o1 := OwnG.lit 23 w3 [.pointer (some ad)] (by simp [maxLen])
  have o2 := OwnG.lit 42 (w3.alloc (.cells #[.pointer (some ad)] 23)) [.pointer (some rd)] (by simp [maxLen])
  have hlF := O.lt hX
  have hlG := hR.lt
  have z1 := h1.size
  have z2 := h2.size
  have z3 := h3.size
  have a12 := a1.trans (a2.mono a1.size)
  have hb := h3.trans (a12.mono h3.size)
  have hBoth : Both X w2 (.pointer (some ad)) (.pointer (some rd)) st F G := ⟨O.keeps (G := []) hX (Keep.of_below h2) (fun _ _ => by simp), hR, fun q hq hm => by have := hlF q hq; have := hG q hm; omega⟩
  have hall := h1.trans ((h2.mono z1).trans (hb.mono (Nat.le_trans z1 z2)))
  refine ⟨⟨some ⟨w3.heap.size, 0, none⟩, some ⟨w3.heap.size + 1, 0, none⟩, none, 1, 1, 0, 0, [⟨.pointer (some ad), .pointer (some rd), st⟩], [], fun _ => [], fun _ => none, fun q => if q = w3.heap.size then 0 else if q = w3.heap.size + 1 then 1 else 4, rfl, rfl, rfl, rfl, by omega, by omega, rfl, by omega, ⟨hall.size, fun a ha => by (cases ha), fun k p hp => ?_, ⟨?_, ?_⟩, ⟨?_, ?_⟩, ⟨OwnK.nil _ _ _, fun q hq => by cases hq⟩, fun k s L hk => by cases hk⟩, PgsE.nil⟩, hall⟩
  · rcases k with _ | k
    · simp at hp
      subst hp
      refine ⟨F, G, hBoth.later O hb, fun q hq => ⟨?_, hF q hq⟩, fun q hq => ⟨?_, ?_⟩⟩
      · have := hlF q hq
        show (if q = w3.heap.size then 0 else if q = w3.heap.size + 1 then 1 else 4) = _
        rw [if_neg (by omega), if_neg (by omega)]
      · have := hlG q hq
        show (if q = w3.heap.size then 0 else if q = w3.heap.size + 1 then 1 else 4) = _
        rw [if_neg (by omega), if_neg (by omega)]
      · have := hG q hq; omega
    · simp at hp
  · exact (OwnG.keep o1 a2).le (by omega)
  · intro q hq
    have e : w3.heap.size = q := by simpa [Value.ownBlock] using hq
    show (if q = w3.heap.size then 0 else if q = w3.heap.size + 1 then 1 else 4) = _
    rw [if_pos e.symm]
  · rw [s1] at o2
    exact o2.le (by omega)
  · intro q hq
    have e : w3.heap.size + 1 = q := by simpa [Value.ownBlock] using hq
    show (if q = w3.heap.size then 0 else if q = w3.heap.size + 1 then 1 else 4) = _
    rw [if_neg (by omega), if_pos e.symm]
section
variable {X : World → Value → XSt → List Nat → Prop} {W W' : World} {B : Nat} {A : List Nat} {tag : Nat → Nat} {xs rs bk : Value} {vxs vrs : List Value} {ps : List P8} {pgs : List Pg} {E : Nat → Option (Sl3 × List Pr)}
/-- A box of the law's own. -/
theorem Gm.box (O : ExtOk X) (h : Gm X W B [] tag xs rs bk vxs vrs ps pgs E) (ob : Obj) : Gm X (W.alloc ob) B [W.heap.size] (retag W.heap.size tag (fun _ => 3)) xs rs bk vxs vrs ps pgs E := by
  have hb := below_alloc W ob
  have hT : ∀ u, TurnT tag (retag W.heap.size tag (fun _ => 3)) u W (W.alloc ob) := fun u => ⟨fun q hq => retag_old hq, [], Keep.of_below hb, fun _ hq => by cases hq⟩
  refine ⟨Nat.le_trans h.base hb.size, fun a ha => ?_, fun k p hp => (h.pair k p hp).turn O (hT 0) (by omega), h.xs.turn (hT 1) (by omega), h.rs.turn (hT 0) (by omega), h.bk.turn (hT 0) (by omega), fun k s L hk => ⟨(h.lst k s L hk).1.turn (hT 0) (by omega), (h.lst k s L hk).2⟩⟩
  have e : a = W.heap.size := by simpa using ha
  subst e
  rw [World.size_alloc, retag_new (Nat.le_refl _)]
  omega
theorem Gm.bare (h : Gm X W B A tag xs rs bk vxs vrs ps pgs E) : Gm X W B [] tag xs rs bk vxs vrs ps pgs E := ⟨h.base, fun a ha => by (cases ha), h.pair, h.xs, h.rs, h.bk, h.lst⟩
theorem Gm.answered (O : ExtOk X) (h : Gm X W B A tag xs rs bk vxs vrs ps pgs E) {k : Nat} {p : P8} (hp : ps[k]? = some p) (o : Op8) (ho : o.Ok) :
    Calls Try.prog 16 #[p.vx, p.vr, .agg (op8A o)] W fun e w' => e = .returned (.bool true) ∧ ∃ tag', Gm X w' B A tag' xs rs bk vxs vrs (ps.set k { p with st := acted p.st o }) pgs E ∧ KB B A W w' := by
  obtain ⟨F, G, h1, h2, h3⟩ := h.pair k p hp
  refine (answered_any O W p.vx p.vr p.st F G o h1 ho).mono ?_
  rintro e w' ⟨rfl, F', G', b1, b2, b3, b4⟩
  have hT : TurnT tag (retag W.heap.size tag (fun _ => 4 + 2 * k)) (4 + 2 * k) W w' := ⟨fun q hq => retag_old hq, F ++ G, b4, fun q hq _ => by
    rcases List.mem_append.1 hq with hq | hq
    · exact (h2 q hq).1
    · exact (h3 q hq).1⟩
  have hnew : ∀ (F F' : List Nat), (∀ q ∈ F, tag q = 4 + 2 * k ∧ B ≤ q) → (∀ q ∈ F', q ∈ F ∨ W.heap.size ≤ q) → ∀ q ∈ F', retag W.heap.size tag (fun _ => 4 + 2 * k) q = 4 + 2 * k ∧ B ≤ q := fun F F' hF hF' q hq => by
    have hB := h.base
    rcases hF' q hq with h9 | h9
    · refine ⟨?_, (hF q h9).2⟩
      unfold retag
      split
      · exact (hF q h9).1
      · rfl
    · exact ⟨retag_new h9, by omega⟩
  refine ⟨rfl, _, h.turn O (p' := { p with st := acted p.st o }) hT ⟨F', G', b1, hnew F F' h2 b2, hnew G G' h3 b3⟩, ⟨F ++ G, b4, fun q hq => ?_⟩⟩
  rcases List.mem_append.1 hq with hq | hq
  · exact ⟨(h2 q hq).2, fun ha => by have := (h.own q ha).2; have := (h2 q hq).1; omega⟩
  · exact ⟨(h3 q hq).2, fun ha => by have := (h.own q ha).2; have := (h3 q hq).1; omega⟩
theorem Gm.left (O : ExtOk X) (h : Gm X W B A tag xs rs bk vxs vrs ps pgs E) {k : Nat} {p : P8} (hp : ps[k]? = some p) :
    Calls Try.prog 13 #[p.vx] W fun e w' => e = .returned (.int .i64 (xLeft p.st : Nat)) ∧ ∃ tag', Gm X w' B A tag' xs rs bk vxs vrs ps pgs E ∧ KB B A W w' := by
  obtain ⟨F, G, h1, h2, h3⟩ := h.pair k p hp
  refine (O.left W p.vx p.st F h1.x).mono ?_
  rintro e w' ⟨rfl, F', f1, f2, f3⟩
  have hB := h.base
  have hlG := h1.r.lt
  have hT : TurnT tag (retag W.heap.size tag (fun _ => 4 + 2 * k)) (4 + 2 * k) W w' := ⟨fun q hq => retag_old hq, F, f3, fun q hq _ => (h2 q hq).1⟩
  have hP : HasP X w' B (retag W.heap.size tag (fun _ => 4 + 2 * k)) (4 + 2 * k) p := by
    refine ⟨F', G, ⟨f1, h1.r.keeps f3 (fun q hq hm => h1.apart q hm hq), fun q hq hm => ?_⟩, fun q hq => ?_, fun q hq => ⟨(retag_old (hlG q hq)).trans (h3 q hq).1, (h3 q hq).2⟩⟩
    · rcases f2 q hq with h9 | h9
      · exact h1.apart q h9 hm
      · have := hlG q hm; omega
    · rcases f2 q hq with h9 | h9
      · refine ⟨?_, (h2 q h9).2⟩
        unfold retag
        split
        · exact (h2 q h9).1
        · rfl
      · exact ⟨retag_new h9, by omega⟩
  have g := h.turn O hT hP
  rw [set_self8 hp] at g
  exact ⟨rfl, _, g, ⟨F, f3, fun q hq => ⟨(h2 q hq).2, fun ha => by have := (h.own q ha).2; have := (h2 q hq).1; omega⟩⟩⟩
end
theorem KB.cell {B : Nat} {A : List Nat} {w w' : World} {a j : Nat} {v : Value} (h : KB B A w w') (hc : w.cell? ⟨a, j, none⟩ = some v) (ha : a ∈ A) : w'.cell? ⟨a, j, none⟩ = some v := by
  obtain ⟨H, h1, h2⟩ := h
  exact cell_keepF h1 hc (fun hm => (h2 a hm).2 ha)
theorem set_same8 {ps : List P8} {k : Nat} {vx vr : Value} {st st' : XSt} (hp : ps[k]? = some ⟨vx, vr, st⟩) : ∃ ps' : List P8, ps.set k { (⟨vx, vr, st⟩ : P8) with st := st' } = ps' ∧ ps'.map P8.vx = ps.map P8.vx ∧ ps'.map P8.vr = ps.map P8.vr ∧ ps'.length = ps.length ∧ ps'[k]? = some ⟨vx, vr, st'⟩ := by
  have hk : k < ps.length := (List.getElem?_eq_some_iff.1 hp).1
  refine ⟨_, rfl, ?_, ?_, List.length_set, by rw [List.getElem?_set_self hk]⟩
  · apply List.ext_getElem?
    intro j
    rw [List.getElem?_map, List.getElem?_map, List.getElem?_set]
    by_cases hj : k = j
    · subst hj; rw [if_pos rfl, if_pos hk, hp]; rfl
    · rw [if_neg hj]
  · apply List.ext_getElem?
    intro j
    rw [List.getElem?_map, List.getElem?_map, List.getElem?_set]
    by_cases hj : k = j
    · subst hj; rw [if_pos rfl, if_pos hk, hp]; rfl
    · rw [if_neg hj]
end Go.Proofs.Ytafbkdpheneceaa
namespace Go.Proofs.Ytafbkdpheneceaa
open Go.RowKit

/-! Region 20 of ExtentScript: three lists more, and a page of them -/
section
variable {X : World → Value → XSt → List Nat → Prop} {W W' : World} {B : Nat} {A : List Nat} {tag : Nat → Nat} {xs rs bk : Value} {vxs vrs : List Value} {ps : List P8} {pgs : List Pg} {E : Nat → Option (Sl3 × List Pr)}
def I8 (X : World → Value → XSt → List Nat → Prop) (B : Nat) (A : List Nat) (xs rs bk : Value) (vxs vrs : List Value) (ps : List P8) (pgs : List Pg) (E : Nat → Option (Sl3 × List Pr)) (j : Nat) (L : List Pr) : List Value → World → Prop
  | [], w => ∃ tag, Gm X w B A tag xs rs bk vxs vrs ps pgs E
  | [a], w => ∃ s tag, a = Sl3.v s ∧ Gm X w B A tag xs rs bk vxs vrs ps pgs (updE E j s L)
  | [a, b], w => ∃ s t tag, a = Sl3.v s ∧ b = Sl3.v t ∧ Gm X w B A tag xs rs bk vxs vrs ps pgs (updE (updE E j s L) (j + 1) t L)
  | [a, b, c], w => ∃ s t u tag, a = Sl3.v s ∧ b = Sl3.v t ∧ c = Sl3.v u ∧ Gm X w B A tag xs rs bk vxs vrs ps pgs (updE (updE (updE E j s L) (j + 1) t L) (j + 2) u L)
  | _, _ => False
theorem I8_later (O : ExtOk X) {j : Nat} {L : List Pr} : ∀ vs w w', I8 X B A xs rs bk vxs vrs ps pgs E j L vs w → Below w.heap.size w w' → I8 X B A xs rs bk vxs vrs ps pgs E j L vs w'
  | [], _, _, ⟨tag, h⟩, hb => ⟨tag, h.later O hb⟩
  | [_], _, _, ⟨s, tag, e, h⟩, hb => ⟨s, tag, e, h.later O hb⟩
  | [_, _], _, _, ⟨s, t, tag, e, e', h⟩, hb => ⟨s, t, tag, e, e', h.later O hb⟩
  | [_, _, _], _, _, ⟨s, t, u, tag, e, e', e'', h⟩, hb => ⟨s, t, u, tag, e, e', e'', h.later O hb⟩
  | _ :: _ :: _ :: _ :: _, _, _, h, _ => h.elim
theorem Gm.guard {gx gr n m c d : Nat} (h : Gm X W B A tag (.slice (some ⟨gx, 0, none⟩) n c) (.slice (some ⟨gr, 0, none⟩) m d) bk vxs vrs ps pgs E) : Gm X W B (gx :: gr :: A) tag (.slice (some ⟨gx, 0, none⟩) n c) (.slice (some ⟨gr, 0, none⟩) m d) bk vxs vrs ps pgs E := by
  refine ⟨h.base, fun a ha => ?_, h.pair, h.xs, h.rs, h.bk, h.lst⟩
  rcases List.mem_cons.1 ha with rfl | ha
  · have := h.xs.2 a rfl
    exact ⟨(OwnG.lt h.xs.1 a rfl).2, by omega⟩
  · rcases List.mem_cons.1 ha with rfl | ha
    · have := h.rs.2 a rfl
      exact ⟨(OwnG.lt h.rs.1 a rfl).2, by omega⟩
    · exact h.own a ha
/-- The page that is built, and the slice that holds it. -/
def F16 (X : World → Value → XSt → List Nat → Prop) (B : Nat) (A : List Nat) (xs rs bk : Value) (vxs vrs : List Value) (ps : List P8) (pgs : List Pg) (E : Nat → Option (Sl3 × List Pr)) (j : Nat) (L : List Pr) (v : Value) (x : World) : Prop :=
  ∃ s t u tag, v = .agg (pgA ⟨s, t, u⟩) ∧ Gm X x B A tag xs rs bk vxs vrs ps pgs (updE (updE (updE E j s L) (j + 1) t L) (j + 2) u L)
def F17 (X : World → Value → XSt → List Nat → Prop) (B : Nat) (A : List Nat) (xs rs bk : Value) (vxs vrs : List Value) (ps : List P8) (pgs : List Pg) (E : Nat → Option (Sl3 × List Pr)) (j : Nat) (L : List Pr) (v : Value) (x : World) : Prop :=
  ∃ s t u tag y, v = .slice (some ⟨y, 0, none⟩) 1 1 ∧ x.rangeAt y 0 (pgE.enc ⟨s, t, u⟩) ∧ y < x.heap.size ∧ Gm X x B A tag xs rs bk vxs vrs ps pgs (updE (updE (updE E j s L) (j + 1) t L) (j + 2) u L)
end
end Go.Proofs.Ytafbkdpheneceaa
namespace Go.Proofs.Ytafbkdpheneceaa
open Go.RowKit

/-! The rest of ExtentScript's own: the page's literal, lists of extents, the second loop's region -/
def pgLit1 (x : Value) : Sem Next := do pure (.value (← Instr.buildSlice 47 1 #[(0, x)]))
theorem execOp_pgLit1 (ρ : Operand → Value) (dst : Option Tmp) (ty : TypeId) (pos : String) (after : Array Edge) (guard : Option (Nat × Bool)) (x : Operand) : execOp ρ { dst, op := .buildSlice 47 1 #[(0, x)], type := ty, pos, after, guard } = pgLit1 (ρ x) := by simp [execOp, pgLit1]
theorem pgE_arr (p : Pg) : (pgE.enc p).toArray = pgA p := by rw [pgE_enc, Array.toArray_toList]
theorem run_pgLit1 (w : World) (p : Pg) : (pgLit1 (.agg (pgA p))).run Try.prog w = .ok (.value (.slice (some ⟨w.heap.size, 0, none⟩) 1 1)) (w.alloc (.cells (pgA p) 50)) := by
  have h := run_litK1 pgE_ok (by show 3 ≤ 1000; omega) w p
  rw [pgE_arr] at h
  have h' : (Instr.buildSlice 47 1 #[(0, .agg (pgA p))]).run Try.prog w = .ok (.slice (some ⟨w.heap.size, 0, none⟩) 1 1) (w.alloc (.cells (pgA p) 50)) := h
  simp only [pgLit1, Sem.run_bind, h', Result.andThen_ok]; rfl
theorem newPg (x : World) (y : Pg) : (x.alloc (.cells (pgA y) 50)).rangeAt x.heap.size 0 (pgE.enc y) := fun j u hu => by
  rw [Nat.zero_add, cell_of_row _ _ j _ _ _ (heap_alloc_last x _)]
  rw [pgE_enc, Array.getElem?_toList] at hu; exact hu
theorem xElt8 : Elt 45 23 8 := ⟨Try.underlying45, by
  have h : (Try.prog.info? 23).map (fun i => (i.zero, i.size, i.bytes)) = some (some (.pointer none), 1, 8) := by kernel_rfl
  obtain ⟨i, hi, hz⟩ := Option.map_eq_some_iff.1 h
  simp only [Prod.mk.injEq] at hz
  exact ⟨i, _, hi, hz.1, hz.2.1, hz.2.2, rfl⟩⟩
theorem rElt8 : Elt 46 42 8 := ⟨Try.underlying46, by
  have h : (Try.prog.info? 42).map (fun i => (i.zero, i.size, i.bytes)) = some (some (.pointer none), 1, 8) := by kernel_rfl
  obtain ⟨i, hi, hz⟩ := Option.map_eq_some_iff.1 h
  simp only [Prod.mk.injEq] at hz
  exact ⟨i, _, hi, hz.1, hz.2.1, hz.2.2, rfl⟩⟩
theorem PgsE.more {pgs : List Pg} {ls : Nat → List Pr} {E : Nat → Option (Sl3 × List Pr)} (h : PgsE pgs ls E) (j : Nat) (hj : 3 * pgs.length ≤ j) (s : Sl3) (L : List Pr) : PgsE pgs ls (updE E j s L) := by
  refine ⟨fun i q hq => ?_, h.len⟩
  have hi : i < pgs.length := (List.getElem?_eq_some_iff.1 hq).1
  obtain ⟨h1, h2, h3⟩ := h.at' i q hq
  unfold updE
  rw [if_neg (by omega), if_neg (by omega), if_neg (by omega)]
  exact ⟨h1, h2, h3⟩
section
variable {X : World → Value → XSt → List Nat → Prop} {W W' : World} {B : Nat} {A : List Nat} {tag : Nat → Nat} {xs rs bk : Value} {vxs vrs : List Value} {ps : List P8} {pgs : List Pg} {E : Nat → Option (Sl3 × List Pr)}
/-- The law's own box, while the book is written. -/
theorem Gm.boxed (h : Gm X W B A tag xs rs bk vxs vrs ps pgs E) (hK : Keep bk.ownBlock.toList W W') {a j : Nat} {v : Value} (ha : a ∈ A) (hc : W.cell? ⟨a, j, none⟩ = some v) : W'.cell? ⟨a, j, none⟩ = some v := by
  refine cell_keepF hK hc (fun hm => ?_)
  have h1 := h.bk.2 a (by simpa using hm)
  have h2 := (h.own a ha).2.2
  omega
/-- What holds while the second loop's region goes. -/
def I9 (X : World → Value → XSt → List Nat → Prop) (B : Nat) (A : List Nat) (xs rs bk : Value) (vxs vrs : List Value) (ps : List P8) (pgs : List Pg) (E : Nat → Option (Sl3 × List Pr)) (j : Nat) (L : List Pr) : List Value → World → Prop
  | [], w => ∃ tag, Gm X w B A tag xs rs bk vxs vrs ps pgs E
  | [a], w => ∃ s tag, a = Sl3.v s ∧ Gm X w B A tag xs rs bk vxs vrs ps pgs (updE E j s L)
  | a :: b :: _, w => ∃ s t tag, a = Sl3.v s ∧ b = Sl3.v t ∧ Gm X w B A tag xs rs bk vxs vrs ps pgs (updE (updE E j s L) (j + 1) t L)
theorem I9_later (O : ExtOk X) {j : Nat} {L : List Pr} : ∀ vs w w', I9 X B A xs rs bk vxs vrs ps pgs E j L vs w → Below w.heap.size w w' → I9 X B A xs rs bk vxs vrs ps pgs E j L vs w'
  | [], _, _, ⟨tag, h⟩, hb => ⟨tag, h.later O hb⟩
  | [_], _, _, ⟨s, tag, e, h⟩, hb => ⟨s, tag, e, h.later O hb⟩
  | _ :: _ :: _, _, _, ⟨s, t, tag, e, e', h⟩, hb => ⟨s, t, tag, e, e', h.later O hb⟩
/-- Two lists of the same ranges are the same. -/
theorem Gm.same (h : Gm X W B A tag xs rs bk vxs vrs ps pgs E) {i j : Nat} {s t : Sl3} {L : List Pr} (hi : E i = some (s, L)) (hj : E j = some (t, L)) (hL : L.length ≤ 2000) :
    Calls Try.prog 14 #[s.v, t.v] W fun e w' => e = .returned (.bool true) ∧ Below W.heap.size W w' := by
  obtain ⟨h1, e1⟩ := h.lst i s L hi
  obtain ⟨h2, e2⟩ := h.lst j t L hj
  have := sameP_any s.y t.y s.c t.c s.n t.n L L W e1 e2 (h1.1.isK prE_ok) (h2.1.isK prE_ok) (by omega)
  rw [decide_eq_true rfl] at this
  exact this
end
end Go.Proofs.Ytafbkdpheneceaa
