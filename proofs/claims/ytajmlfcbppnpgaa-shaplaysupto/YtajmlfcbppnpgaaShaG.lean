
import Derived.Test.YtajmlfcbppnpgaaSha6
namespace Go.Proofs.Ytajmlfcbppnpgaa
open Go.RowKit

/-! Sums under way, in a slice, and what each has eaten. -/
structure Ent where
  h : Nat
  u : Value
  e : List UInt8
  f : List UInt8
def Ent.cs (x : Ent) : List Value := [.pointer (some ⟨x.h, 0, none⟩), x.u]
def flatE : List Ent → List Value
  | [] => []
  | x :: r => x.cs ++ flatE r
theorem flatE_len : ∀ es : List Ent, (flatE es).length = es.length * 2
  | [] => rfl
  | x :: r => by simp [flatE, Ent.cs, flatE_len r]; omega
theorem flatE_get : ∀ (es : List Ent) (k : Nat) (x : Ent), es[k]? = some x → (flatE es)[k * 2]? = some (.pointer (some ⟨x.h, 0, none⟩)) ∧ (flatE es)[k * 2 + 1]? = some x.u
  | [], k, x, h => by simp at h
  | y :: r, 0, x, h => by simp at h; subst h; simp [flatE, Ent.cs]
  | y :: r, k + 1, x, h => by
    have := flatE_get r k x (by simpa using h)
    rw [show (k + 1) * 2 = k * 2 + 1 + 1 by omega]
    simpa [flatE, Ent.cs] using this
theorem flatE_set : ∀ (es : List Ent) (k : Nat) (x y : Ent), es[k]? = some x → y.h = x.h → flatE (es.set k y) = (flatE es).set (k * 2 + 1) y.u
  | [], k, x, y, h, _ => by simp at h
  | z :: r, 0, x, y, h, hh => by simp at h; subst h; simp [flatE, Ent.cs, hh]
  | z :: r, k + 1, x, y, h, hh => by
    have := flatE_set r k x y (by simpa using h) hh
    rw [show (k + 1) * 2 = k * 2 + 1 + 1 by omega]
    simp [flatE, Ent.cs, this]
theorem flatE_snoc : ∀ (es : List Ent) (x : Ent), flatE (es ++ [x]) = flatE es ++ x.cs
  | [], x => by simp [flatE]
  | y :: r, x => by simp [flatE, flatE_snoc r x]
theorem set_same : ∀ (l : List Value) (k : Nat) (u : Value), l[k]? = some u → l.set k u = l
  | [], _, _, h => by simp at h
  | x :: r, 0, u, h => by simp at h; subst h; rfl
  | x :: r, k + 1, u, h => by simp [set_same r k u (by simpa using h)]
def EntOk (B : Nat) (w : World) (x : Ent) : Prop := HIs w (.pointer (some ⟨x.h, 0, none⟩)) x.e [x.h] ∧ OwnB w B x.u x.f ∧ B ≤ x.h
def Apart1 (gl : Nat) (x : Ent) : Prop := gl ≠ x.h ∧ x.u.ownBlock ≠ some gl ∧ x.u.ownBlock ≠ some x.h
def Apart2 (x y : Ent) : Prop := x.h ≠ y.h ∧ x.u.ownBlock ≠ some y.h ∧ y.u.ownBlock ≠ some x.h ∧ ∀ q, x.u.ownBlock = some q → y.u.ownBlock ≠ some q
theorem Apart2.symm {x y : Ent} (h : Apart2 x y) : Apart2 y x := ⟨fun e => h.1 e.symm, h.2.2.1, h.2.1, fun q hq hp => h.2.2.2 q hp hq⟩
def OwnE (w : World) (B : Nat) (v : Value) (es : List Ent) : Prop := w.ownsRow B 37 2 v es.length (flatE es)
structure Game (B : Nat) (w : World) (gl c : Nat) (es : List Ent) : Prop where
  own : OwnE w B (.slice (some ⟨gl, 0, none⟩) es.length c) es
  ok : ∀ (i : Nat) x, es[i]? = some x → EntOk B w x
  one : ∀ (i : Nat) x, es[i]? = some x → Apart1 gl x
  two : ∀ (i j : Nat) x y, es[i]? = some x → es[j]? = some y → i ≠ j → Apart2 x y
theorem ownsRow_keeps {F : List Nat} {w w' : World} {B : Nat} {e : TypeId} {size : Nat} {v : Value} {n : Nat} {xs : List Value} (h : w.ownsRow B e size v n xs) (hK : Keeps F w w') (hq : ∀ q, v.ownBlock = some q → q ∉ F) : w'.ownsRow B e size v n xs := by
  refine ⟨h.1, ?_⟩
  rcases h.2 with hn | ⟨g, cap, cur, rfl, hb, hg, rest⟩
  · exact .inl hn
  · refine .inr ⟨g, cap, cur, rfl, hb, ?_, rest⟩
    rw [hK.block g (Array.getElem?_eq_some_iff.1 hg).1 (hq g rfl)]
    exact hg
theorem keeps_below {w w' : World} (F : List Nat) (h : Below w.heap.size w w') : Keeps F w w' := ⟨h.os, h.tape, h.output, h.size, fun k hk _ => h.block k hk⟩
theorem keeps_grown {w w' : World} {row : Option Nat} (h : w.grownBy w' row) : Keeps row.toList w w' :=
  ⟨h.os, h.tape, h.output, h.size, fun k hk hn => h.block k hk (fun e => hn (by rw [← e]; simp))⟩
theorem HIs.keeps {F G : List Nat} {w w' : World} {g : Nat} {l : List UInt8} (h : HIs w (.pointer (some ⟨g, 0, none⟩)) l G) (hK : Keeps F w w') (hg : g ∉ F) : HIs w' (.pointer (some ⟨g, 0, none⟩)) l G := by
  obtain ⟨q, b, he, rfl, hR, hb⟩ := h
  simp only [Value.pointer.injEq, Option.some.injEq, Addr.mk.injEq, and_true] at he
  subst he
  exact ⟨g, b, rfl, rfl, hR.block (hK.block g hR.lt hg), hb⟩
theorem HIs.lt1 {G : List Nat} {w : World} {g : Nat} {l : List UInt8} (h : HIs w (.pointer (some ⟨g, 0, none⟩)) l G) : g < w.heap.size := by
  obtain ⟨q, b, he, rfl, hR, hb⟩ := h
  simp only [Value.pointer.injEq, Option.some.injEq, Addr.mk.injEq, and_true] at he
  subst he
  exact hR.lt
theorem EntOk.keeps {F : List Nat} {w w' : World} {B : Nat} {x : Ent} (h : EntOk B w x) (hK : Keeps F w w') (h1 : x.h ∉ F) (h2 : ∀ q, x.u.ownBlock = some q → q ∉ F) : EntOk B w' x :=
  ⟨h.1.keeps hK h1, ownsRow_keeps h.2.1 hK h2, h.2.2⟩
theorem Game.keeps {F : List Nat} {B : Nat} {w w' : World} {gl c : Nat} {es : List Ent} (G : Game B w gl c es) (hK : Keeps F w w') (h0 : gl ∉ F) (h1 : ∀ (i : Nat) x, es[i]? = some x → x.h ∉ F ∧ ∀ q, x.u.ownBlock = some q → q ∉ F) : Game B w' gl c es :=
  ⟨ownsRow_keeps G.own hK (fun q hq => by simp only [Value.ownBlock, Option.some.injEq] at hq; subst hq; exact h0), fun i x hx => (G.ok i x hx).keeps hK (h1 i x hx).1 (h1 i x hx).2, G.one, G.two⟩
theorem Game.grow {B : Nat} {w w' : World} {gl c : Nat} {es : List Ent} (G : Game B w gl c es) (h : Below w.heap.size w w') : Game B w' gl c es :=
  G.keeps (keeps_below [] h) (by simp) (fun _ _ _ => ⟨by simp, fun _ _ => by simp⟩)
/-- What is made later is apart from all of it. -/
theorem Game.fresh {B : Nat} {w : World} {gl c : Nat} {es : List Ent} (G : Game B w gl c es) {q : Nat} (hq : w.heap.size ≤ q) : gl ≠ q ∧ ∀ (i : Nat) x, es[i]? = some x → x.h ≠ q ∧ x.u.ownBlock ≠ some q := by
  refine ⟨fun e => ?_, fun i x hx => ⟨fun e => ?_, fun e => ?_⟩⟩
  · have := World.ownsRow.lt G.own gl rfl; omega
  · have := (G.ok i x hx).1.lt1; omega
  · have := World.ownsRow.lt (G.ok i x hx).2.1 q e; omega
theorem Game.cell {B : Nat} {w : World} {gl c : Nat} {es : List Ent} (G : Game B w gl c es) {k : Nat} {x : Ent} (hx : es[k]? = some x) :
    w.cell? ⟨gl, k * 2, none⟩ = some (.pointer (some ⟨x.h, 0, none⟩)) ∧ w.cell? ⟨gl, k * 2 + 1, none⟩ = some x.u := by
  obtain ⟨h1, h2⟩ := flatE_get es k x hx
  have c1 := World.ownsRow.cells G.own (g := gl) rfl (k * 2) _ h1
  have c2 := World.ownsRow.cells G.own (g := gl) rfl (k * 2 + 1) _ h2
  rw [addr_add, Nat.zero_add] at c1 c2
  exact ⟨c1, c2⟩
theorem Game.frozen {B : Nat} {w : World} {gl c : Nat} {es : List Ent} (G : Game B w gl c es) (j : Nat) : w.frozen? ⟨gl, j, none⟩ = false := World.ownsRow.frozenAt G.own j
theorem Game.lt {B : Nat} {w : World} {gl c : Nat} {es : List Ent} (G : Game B w gl c es) : B ≤ gl ∧ gl < w.heap.size := World.ownsRow.lt G.own gl rfl
theorem set_get {es : List Ent} {k i : Nat} {x y z : Ent} (hx : es[k]? = some x) (h : (es.set k y)[i]? = some z) : (i = k ∧ z = y) ∨ (i ≠ k ∧ es[i]? = some z) := by
  by_cases e : i = k
  · subst e
    have := (List.getElem?_eq_some_iff.1 hx).1
    rw [List.getElem?_set_self this, Option.some.injEq] at h
    exact .inl ⟨rfl, h.symm⟩
  · rw [List.getElem?_set_ne (fun h => e h.symm)] at h
    exact .inr ⟨e, h⟩
/-- A hash has eaten more. -/
theorem Game.wrote {B : Nat} {w w' : World} {gl c : Nat} {es : List Ent} (G : Game B w gl c es) {k : Nat} {x : Ent} (hx : es[k]? = some x) (hK : Keeps [x.h] w w') {e' : List UInt8} (hh : HIs w' (.pointer (some ⟨x.h, 0, none⟩)) e' [x.h]) :
    Game B w' gl c (es.set k { x with e := e' }) := by
  have hrow : flatE (es.set k { x with e := e' }) = flatE es := by
    rw [flatE_set es k x { x with e := e' } hx rfl]
    exact set_same _ _ _ (flatE_get es k x hx).2
  refine ⟨?_, fun i z hz => ?_, fun i z hz => ?_, fun i j y z hy hz hij => ?_⟩
  · unfold OwnE
    rw [hrow, List.length_set]
    exact ownsRow_keeps G.own hK (fun q hq => by simp only [Value.ownBlock, Option.some.injEq] at hq; subst hq; simpa using (G.one k x hx).1)
  · rcases set_get hx hz with ⟨rfl, rfl⟩ | ⟨hne, hz⟩
    · refine ⟨hh, ownsRow_keeps (G.ok i x hx).2.1 hK (fun q hq => ?_), (G.ok i x hx).2.2⟩
      have := (G.one i x hx).2.2
      rw [hq] at this
      simpa using this
    · have h2 := G.two i k z x hz hx hne
      exact (G.ok i z hz).keeps hK (by simpa using h2.1) (fun q hq => by have := h2.2.1; rw [hq] at this; simpa using this)
  · rcases set_get hx hz with ⟨rfl, rfl⟩ | ⟨hne, hz⟩
    · exact G.one i x hx
    · exact G.one i z hz
  · rcases set_get hx hy with ⟨rfl, rfl⟩ | ⟨hne, hy'⟩
    · rcases set_get hx hz with ⟨rfl, rfl⟩ | ⟨hne2, hz'⟩
      · exact absurd rfl hij
      · exact G.two i j x z hx hz' hij
    · rcases set_get hx hz with ⟨rfl, rfl⟩ | ⟨hne2, hz'⟩
      · exact G.two i j y x hy' hx hij
      · exact G.two i j y z hy' hz' hij
theorem keeps_setCell (w : World) (g i : Nat) (v : Value) : Keeps [g] w (w.setCell ⟨g, i, none⟩ v) := (Keeps.refl [g] w).setCell_ g i (by simp) v
/-- What it has eaten is written down. -/
theorem Game.stored {B : Nat} {w w1 : World} {gl c : Nat} {es : List Ent} (G : Game B w gl c es) {k : Nat} {x : Ent} (hx : es[k]? = some x) (hg : w.grownBy w1 x.u.ownBlock) {v' : Value} {f' : List UInt8} (hO : OwnB w1 B v' f')
    (hq : ∀ g, v'.ownBlock = some g → x.u.ownBlock = some g ∨ g = w.heap.size) : Game B (w1.setCell ⟨gl, k * 2 + 1, none⟩ v') gl c (es.set k { x with u := v', f := f' }) := by
  have hK := keeps_grown hg
  have hS := keeps_setCell w1 gl (k * 2 + 1) v'
  have hfr := G.fresh (Nat.le_refl w.heap.size)
  have o1 := G.one k x hx
  have hv0 : v'.ownBlock ≠ some gl := fun e => by
    rcases hq gl e with h | h
    · exact o1.2.1 h
    · exact hfr.1 h
  have hvh : ∀ (i : Nat) z, es[i]? = some z → v'.ownBlock ≠ some z.h := fun i z hz e => by
    rcases hq _ e with h | h
    · by_cases hik : i = k
      · subst hik; rw [hx, Option.some.injEq] at hz; subst hz; exact o1.2.2 h
      · exact (G.two i k z x hz hx hik).2.2.1 h
    · exact (hfr.2 i z hz).1 h
  refine ⟨?_, fun i z hz => ?_, fun i z hz => ?_, fun i j y z hy hz hij => ?_⟩
  · unfold OwnE
    rw [flatE_set es k x { x with u := v', f := f' } hx rfl, List.length_set]
    have h1 : w1.ownsRow B 37 2 (.slice (some ⟨gl, 0, none⟩) es.length c) es.length (flatE es) := ownsRow_keeps G.own hK (fun q hq' => by
      simp only [Value.ownBlock, Option.some.injEq] at hq'; subst hq'
      intro hm
      have := o1.2.1
      cases hu : x.u.ownBlock with
      | none => simp [hu] at hm
      | some p => simp [hu] at hm; subst hm; exact this hu)
    exact (World.ownsRow.stored h1 (k * 2 + 1) v').1
  · rcases set_get hx hz with ⟨rfl, rfl⟩ | ⟨hne, hz⟩
    · refine ⟨?_, ownsRow_keeps hO hS (fun q hq' => ?_), (G.ok i x hx).2.2⟩
      · refine ((G.ok i x hx).1.keeps hK ?_).keeps hS (by simpa using fun e => o1.1 e.symm)
        intro hm
        cases hu : x.u.ownBlock with
        | none => simp [hu] at hm
        | some p => simp [hu] at hm; subst hm; exact o1.2.2 hu
      · have : v'.ownBlock ≠ some gl := hv0
        have hq2 : v'.ownBlock = some q := hq'
        rw [hq2] at this
        simpa using this
    · have h2 := G.two i k z x hz hx hne
      refine ((G.ok i z hz).keeps hK ?_ (fun q hq' => ?_)).keeps hS (by simpa using fun e => (G.one i z hz).1 e.symm) (fun q hq' => by have := (G.one i z hz).2.1; rw [hq'] at this; simpa using this)
      · intro hm
        cases hu : x.u.ownBlock with
        | none => simp [hu] at hm
        | some p => simp [hu] at hm; subst hm; exact h2.2.2.1 hu
      · intro hm
        cases hu : x.u.ownBlock with
        | none => simp [hu] at hm
        | some p => simp [hu] at hm; subst hm; exact h2.2.2.2 _ hq' hu
  · rcases set_get hx hz with ⟨rfl, rfl⟩ | ⟨hne, hz⟩
    · exact ⟨o1.1, hv0, hvh i x hx⟩
    · exact G.one i z hz
  · have key : ∀ (j : Nat) z, es[j]? = some z → j ≠ k → Apart2 { x with u := v', f := f' } z := fun j z hz hjk => by
      have h2 := G.two j k z x hz hx hjk
      refine ⟨fun e => h2.1 e.symm, hvh j z hz, h2.2.1, fun q hq' hz' => ?_⟩
      rcases hq q hq' with h | h
      · exact h2.2.2.2 q hz' h
      · subst h; exact (hfr.2 j z hz).2 hz'
    rcases set_get hx hy with ⟨rfl, rfl⟩ | ⟨hne, hy'⟩
    · rcases set_get hx hz with ⟨rfl, rfl⟩ | ⟨hne2, hz'⟩
      · exact absurd rfl hij
      · exact key j z hz' hne2
    · rcases set_get hx hz with ⟨rfl, rfl⟩ | ⟨hne2, hz'⟩
      · exact (key i y hy' hne).symm
      · exact G.two i j y z hy' hz' hij
/-- One more. -/
theorem Game.more {B : Nat} {w w1 : World} {gl c gl' c' : Nat} {es : List Ent} {y : Ent} (G : Game B w gl c es) (hy : EntOk B w y) (hy1 : Apart1 gl y) (hyn : y.u.ownBlock ≠ some w.heap.size) (hy2 : ∀ (i : Nat) x, es[i]? = some x → Apart2 x y)
    (hO : w1.ownsRow B 37 2 (.slice (some ⟨gl', 0, none⟩) (es.length + 1) c') (es.length + 1) (flatE es ++ y.cs)) (hg : w.grownBy w1 (some gl)) (hgl : gl' = gl ∨ gl' = w.heap.size) : Game B w1 gl' c' (es ++ [y]) := by
  have hK := keeps_grown hg
  simp only [Option.toList_some] at hK
  have hfr := G.fresh (Nat.le_refl w.heap.size)
  have get : ∀ {i : Nat} {x : Ent}, (es ++ [y])[i]? = some x → es[i]? = some x ∧ i < es.length ∨ (i = es.length ∧ x = y) := fun {i x} h => by
    by_cases hi : i < es.length
    · rw [List.getElem?_append_left hi] at h; exact .inl ⟨h, hi⟩
    · rw [List.getElem?_append_right (by omega)] at h
      have : i - es.length = 0 := by
        rcases Nat.eq_zero_or_pos (i - es.length) with h0 | h0
        · exact h0
        · rw [List.getElem?_eq_none (by simp; omega)] at h; cases h
      rw [this] at h
      simp at h
      exact .inr ⟨by omega, h.symm⟩
  refine ⟨?_, fun i z hz => ?_, fun i z hz => ?_, fun i j x z hx hz hij => ?_⟩
  · unfold OwnE
    rw [flatE_snoc, List.length_append]
    exact hO
  · rcases get hz with ⟨hz, _⟩ | ⟨_, rfl⟩
    · exact (G.ok i z hz).keeps hK (by simpa using fun e => (G.one i z hz).1 e.symm) (fun q hq => by have := (G.one i z hz).2.1; rw [hq] at this; simpa using this)
    · exact hy.keeps hK (by simpa using fun e => hy1.1 e.symm) (fun q hq => by have := hy1.2.1; rw [hq] at this; simpa using this)
  · rcases get hz with ⟨hz, _⟩ | ⟨_, rfl⟩
    · rcases hgl with rfl | rfl
      · exact G.one i z hz
      · exact ⟨fun e => (hfr.2 i z hz).1 e.symm, (hfr.2 i z hz).2, (G.one i z hz).2.2⟩
    · rcases hgl with rfl | rfl
      · exact hy1
      · refine ⟨fun e => ?_, hyn, hy1.2.2⟩
        have := hy.1.lt1; omega
  · rcases get hx with ⟨hx', hi⟩ | ⟨hi, rfl⟩
    · rcases get hz with ⟨hz', _⟩ | ⟨_, rfl⟩
      · exact G.two i j x z hx' hz' hij
      · exact hy2 i x hx'
    · rcases get hz with ⟨hz', _⟩ | ⟨hj, rfl⟩
      · exact (hy2 j z hz').symm
      · omega
theorem keeps_cell {F : List Nat} {w w' : World} {b o : Nat} {v : Value} (hK : Keeps F w w') (hb : b ∉ F) (h : w.cell? ⟨b, o, none⟩ = some v) : w'.cell? ⟨b, o, none⟩ = some v := by
  rw [World.cell?_of_block (w := w) (hK.block b (World.block_lt_of_cell? w _ h) hb)]; exact h
theorem OwnB.set {w : World} {base g c : Nat} {l : List UInt8} (h : OwnB w base (.slice (some ⟨g, 0, none⟩) l.length c) l) (j : Nat) (b : UInt8) : OwnB (w.setCell ⟨g, j, none⟩ (.int .u8 (b.toNat : Int))) base (.slice (some ⟨g, 0, none⟩) l.length c) (l.set j b) := by
  have := (World.ownsRow.stored h j (.int .u8 (b.toNat : Int))).1
  unfold OwnB
  rw [List.length_set, show (bytesA (l.set j b)).toList = (bytesA l).toList.set j (.int .u8 (b.toNat : Int)) by simp [bytesA, List.map_set]]
  exact this
theorem wpO_app {o : Oper} {a : Act} {w : World} {K : Act → World → Prop} {Q : Exit → Act → World → Prop} (s x : Operand)
    (ho : o.op = .call { callee := .builtin .append, args := #[s, x], argTypes := #[22, 22] }) (v' : Value) (w' : World) (hr : (Builtin.append_ #[22, 22] o.type #[a.eval s, a.eval x]).run Try.prog w = .ok v' w')
    (h : K (a.put o.dst v') w') : o.wp Try.prog a w K Q := by
  unfold Oper.wp execOp
  simp only [ho, resolve, invoke, builtin, Sem.run_bind, Sem.run_pure, Result.andThen_ok, List.map_toArray, List.map_cons, List.map_nil, hr]
  exact h
theorem OwnB.le {w : World} {base base' : Nat} {v : Value} {l : List UInt8} (h : OwnB w base v l) (hb : base' ≤ base) : OwnB w base' v l :=
  ⟨h.1, h.2.elim .inl fun ⟨g, cap, cur, hv, hg, r⟩ => .inr ⟨g, cap, cur, hv, Nat.le_trans hb hg, r⟩⟩
theorem infoE : (Try.prog.info? 37).map (fun i => (i.zero, i.size, i.bytes)) = some (some (.agg #[.pointer none, .slice none 0 0]), 2, 32) := by kernel_rfl
/-- append(l, eaten{..}) -/
theorem run_appE (w : World) (B gl c : Nat) (es : List Ent) (y : Ent) (p : Nat) (ty : TypeId) (hu : y.u.oneCell' = true) (h : OwnE w B (.slice (some ⟨gl, 0, none⟩) es.length c) es) (h0 : w.cell? ⟨p, 0, none⟩ = some (.pointer (some ⟨y.h, 0, none⟩))) (h1 : w.cell? ⟨p, 1, none⟩ = some y.u) (hl : es.length ≤ 5) (hb : B ≤ w.heap.size) :
    ∃ gl' c' w', (Builtin.append_ #[38, 38] ty #[.slice (some ⟨gl, 0, none⟩) es.length c, .slice (some ⟨p, 0, none⟩) 1 1]).run Try.prog w = .ok (.slice (some ⟨gl', 0, none⟩) (es.length + 1) c') w' ∧
      w'.ownsRow B 37 2 (.slice (some ⟨gl', 0, none⟩) (es.length + 1) c') (es.length + 1) (flatE es ++ y.cs) ∧ w.grownBy w' (some gl) ∧ (gl' = gl ∨ gl' = w.heap.size) := by
  obtain ⟨i, hi, hzz⟩ := Option.map_eq_some_iff.1 infoE
  simp only [Prod.mk.injEq] at hzz
  obtain ⟨hz, hs, hby⟩ := hzz
  obtain ⟨gl', c', w', hr, h2, h3, h4, -⟩ := run_append_lies (P := Try.prog) w 38 ty B 37 i _ 2 32 Try.underlying38 hi hz hs hby rfl (by omega) _ es.length (flatE es) h ⟨p, 0, none⟩ 1 1 y.cs rfl
    (fun j u hj => by
      rw [addr_add, Nat.zero_add]
      rcases j with _ | _ | j
      · simp [Ent.cs] at hj; subst hj; exact h0
      · simp [Ent.cs] at hj; subst hj; exact h1
      · simp [Ent.cs] at hj) (fun u hu' => by
      simp only [Ent.cs, List.mem_cons, List.not_mem_nil, or_false] at hu'
      rcases hu' with rfl | rfl
      · rfl
      · exact hu) (by omega) (by unfold maxLen; omega) (by omega) hb _ rfl
  refine ⟨gl', c', w', hr, h2, h3, ?_⟩
  rcases h4 with h4 | h4
  · simp only [Value.ownBlock, Option.some.injEq] at h4; exact .inl h4.symm
  · exact .inr h4
end Go.Proofs.Ytajmlfcbppnpgaa
