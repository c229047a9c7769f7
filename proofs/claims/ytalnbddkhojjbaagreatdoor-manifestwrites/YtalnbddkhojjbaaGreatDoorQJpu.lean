import Derived.Test.YtalnbddkhojjbaaGreatDoorQJop
import Derived.Test.YtalnbddkhojjbaaGreatDoorQRelt
namespace Go.Proofs.YtalnbddkhojjbaaGreatDoor
open Go.RowKit

/-! A key and its value: what holds while they are laid into their object -/
def obN (ks vs : Sl) : Rn := ⟨6, 0, ⟨#[]⟩, ks, vs⟩
def kX (ks : Sl) : Nat → Prop := fun b => ks.v.ownBlock = some b
@[go_sem] theorem run_ndBS_z (w : World) : (ndBS (.agg #[.int .i64 0, .int .i64 0, .string ⟨#[]⟩, .slice none 0 0, .slice none 0 0])).run Tryz.prog w = .ok (.value (.slice (some ⟨w.heap.size, 0, none⟩) 1 1)) (w.alloc (.cells (rnA rnZ) 55)) := run_ndBS w rnZ
structure IUc (x : World) (g gn B : Nat) (ks : Sl) (kb : List ByteArray) : Prop where
  kown : OwnG 9 x B ks.v (strs kb)
  gs : g < gn
  gB : gn < B
  sz : B ≤ x.heap.size
def IU7 (g : Nat) (d : Nat → Bool) (u : Nat → Value) (x : World) : Prop := d 7 = true → d 8 = false → ∃ y, u 7 = .slice (some ⟨y, 0, none⟩) 1 1 ∧ g < y ∧ RowC x y (rnA rnZ)
def IU9 (n : Nat) (d : Nat → Bool) (u : Nat → Value) : Prop := d 9 = true → d 8 = true ∧ ∃ ga ca, u 8 = .slice (some ⟨ga, 0, none⟩) (n + 1) ca ∧ u 9 = .pointer (some ⟨ga, n * 5, none⟩)
def IU8 (g gn : Nat) (L : Sl) (ts : List Tk) (en : Int) (q : Nd × Ps) (B : Nat) (ks vs : Sl) (rs : List Rn) (vals : List Nd) (d10 d13 : Bool) (u5 u8 : Value) (x : World) : Prop :=
  ∃ (r : Rn) (a : Sl), u5 = .agg (rnA r) ∧ u8 = a.v ∧ a.n = vs.n + 1 ∧ Rd x g L ts en q.2 ∧ RowC x gn (rnA (obN ks (bif d13 then a else vs))) ∧ LsO x B (kX ks) a (rs ++ [bif d10 then r else rnZ]) (vals ++ [bif d10 then q.1 else ndZ]) ∧ NdF x (fun b => B ≤ b ∧ a.v.ownBlock ≠ some b ∧ ¬ kX ks b) r q.1
def IUm (g gn : Nat) (L : Sl) (ts : List Tk) (en : Int) (s : Ps) (q : Nd × Ps) (B : Nat) (ks vs : Sl) (rs : List Rn) (vals : List Nd) (d : Nat → Bool) (u : Nat → Value) (x : World) : Prop :=
  bif d 8 then d 5 = true ∧ IU8 g gn L ts en q B ks vs rs vals (d 10) (d 13) (u 5) (u 8) x
  else RowC x gn (rnA (obN ks vs)) ∧ (bif d 5 then ∃ r, u 5 = .agg (rnA r) ∧ IL1 g L ts en q B (kX ks) vs rs vals r x else IL g L ts en s q B (kX ks) vs rs vals [] x)
def IU (g gn : Nat) (L : Sl) (ts : List Tk) (en : Int) (s : Ps) (q : Nd × Ps) (B : Nat) (ks vs : Sl) (kb : List ByteArray) (rs : List Rn) (vals : List Nd) (d : Nat → Bool) (u : Nat → Value) (x : World) : Prop :=
  IUc x g gn B ks kb ∧ (IU7 g d u x ∧ IU9 vs.n d u) ∧ IUm g gn L ts en s q B ks vs rs vals d u x
variable {g gn : Nat} {L : Sl} {ts : List Tk} {en : Int} {s : Ps} {q : Nd × Ps} {B : Nat} {ks vs : Sl} {kb : List ByteArray} {rs : List Rn} {vals : List Nd}
theorem IUc.later {x x' : World} (h : IUc x g gn B ks kb) (hb : Below x.heap.size x x') : IUc x' g gn B ks kb := ⟨h.kown.keep hb, h.gs, h.gB, Nat.le_trans h.sz hb.size⟩
theorem IUc.turn {x x' : World} {o : Option Nat} (h : IUc x g gn B ks kb) (hg : x.grownBy x' o) (ho : ∀ b, o = some b → ¬ kX ks b) : IUc x' g gn B ks kb :=
  ⟨h.kown.grown hg (by
    cases hk : ks.v.ownBlock with
    | none => exact .inl rfl
    | some b => exact .inr (fun e => ho b e.symm hk)), h.gs, h.gB, Nat.le_trans h.sz hg.size⟩
theorem IUc.low {x : World} (h : IUc x g gn B ks kb) : ∀ b, kX ks b → B ≤ b ∧ b < x.heap.size := fun b hb => h.kown.lt b hb
theorem IU_later : ∀ d u w w', IU g gn L ts en s q B ks vs kb rs vals d u w → Below w.heap.size w w' → IU g gn L ts en s q B ks vs kb rs vals d u w' := by
  rintro d u w w' ⟨h1, ⟨h2, h29⟩, h3⟩ hb
  refine ⟨h1.later hb, ⟨fun a b => ?_, h29⟩, ?_⟩
  · obtain ⟨y, e1, e2, e3⟩ := h2 a b
    exact ⟨y, e1, e2, e3.kept hb⟩
  · unfold IUm at h3 ⊢
    cases h8 : d 8 <;> rw [h8] at h3
    · simp only [cond_false] at h3 ⊢
      refine ⟨h3.1.kept hb, ?_⟩
      cases h5 : d 5 <;> rw [h5] at h3
      · exact IL_later (q := q) [] _ _ h3.2 hb
      · obtain ⟨r, e, h⟩ := h3.2
        exact ⟨r, e, IL1_later h hb⟩
    · simp only [cond_true] at h3 ⊢
      obtain ⟨h5, r, a, e1, e2, e3, e4, e5, e6, e7⟩ := h3
      exact ⟨h5, r, a, e1, e2, e3, e4.stay hb, e5.kept hb, e6.later hb, e7.kept hb⟩
theorem IU.row {d : Nat → Bool} {u : Nat → Value} {x : World} (h : IU g gn L ts en s q B ks vs kb rs vals d u x) (h8 : d 8 = false) : RowC x gn (rnA (obN ks vs)) := by
  have := h.2.2
  unfold IUm at this
  rw [h8] at this
  exact this.1
theorem IU.call {d : Nat → Bool} {u : Nat → Value} {x x' : World} {r : Rn} (h : IU g gn L ts en s q B ks vs kb rs vals d u x) (h8 : d 8 = false) (h5 : d 5 = false) (hN : NdF x' (x.heap.size ≤ ·) r q.1) (hR : RdP g L ts en q.2 x x') : IU g gn L ts en s q B ks vs kb rs vals (upB d 5) (upV u 5 (.agg (rnA r))) x' := by
  obtain ⟨h1, ⟨h2, h29⟩, h3⟩ := h
  have hg := h1.gs
  have hgB := h1.gB
  refine ⟨h1.turn hR.2 (fun b e hb => by cases e; have := (h1.low _ hb).1; omega), ⟨fun a b => ?_, fun a => ?_⟩, ?_⟩
  · obtain ⟨y, e1, e2, e3⟩ := h2 (by simpa [upB] using a) h8
    exact ⟨y, by simpa [upV] using e1, e2, e3.block (hR.2.block y e3.lt (fun e => by cases e; omega))⟩
  · have := (h29 (by simpa [upB] using a)).1
    rw [h8] at this; cases this
  · unfold IUm at h3 ⊢
    rw [h8, h5] at h3
    simp only [cond_false] at h3
    have e8 : upB d 5 8 = false := h8
    have e5 : upB d 5 5 = true := rfl
    rw [e8, e5]
    simp only [cond_false, cond_true]
    obtain ⟨r9, e9, h9⟩ := IL.call h3.2 (by omega) hN hR
    exact ⟨h3.1.block (hR.2.block gn h3.1.lt (fun e => by cases e; omega)), r9, by simpa [upV] using e9, h9⟩
theorem IU.build {d : Nat → Bool} {u : Nat → Value} {x : World} (h : IU g gn L ts en s q B ks vs kb rs vals d u x) : IU g gn L ts en s q B ks vs kb rs vals (upB d 7) (upV u 7 (.slice (some ⟨x.heap.size, 0, none⟩) 1 1)) (x.alloc (.cells (rnA rnZ) 55)) := by
  obtain ⟨h1, ⟨h2, h29⟩, h3⟩ := IU_later _ _ _ _ h (below_alloc x (.cells (rnA rnZ) 55))
  refine ⟨h1, ⟨fun _ _ => ⟨x.heap.size, rfl, by have := h1.gs; have := h1.gB; have := h.1.sz; omega, RowC.new _ _ _⟩, fun a => ?_⟩, h3⟩
  obtain ⟨e0, ga, ca, e1, e2⟩ := h29 (by simpa [upB] using a)
  exact ⟨by simpa [upB] using e0, ga, ca, by simpa [upV] using e1, by simpa [upV] using e2⟩
theorem LsO.num {w : World} {B : Nat} {X : Nat → Prop} {v : Sl} {rs : List Rn} {vs : List Nd} (h : LsO w B X v rs vs) : v.n = rs.length := by
  obtain ⟨x, c, he⟩ := (h.own.isK ndE_ok).len
  unfold Sl.v at he
  simp only [Value.slice.injEq] at he
  exact he.2.1
theorem IU.app {d : Nat → Bool} {u : Nat → Value} {x : World} (ty : TypeId) (h : IU g gn L ts en s q B ks vs kb rs vals d u x) (h8 : d 8 = false) (h5 : d 5 = true) (h7 : d 7 = true) (h9 : d 9 = false) (h10 : d 10 = false) (h13 : d 13 = false) (hn : rs.length ≤ 1099511627776) :
    ∃ v x', (Builtin.append_ #[53, 53] ty #[vs.v, u 7]).run Tryz.prog x = .ok v x' ∧ IU g gn L ts en s q B ks vs kb rs vals (upB d 8) (upV u 8 v) x' ∧ Kj g gn x x' := by
  obtain ⟨h1, ⟨h2, h29⟩, h3⟩ := h
  have hg := h1.gs
  have hgB := h1.gB
  obtain ⟨y, e7, hgy, hy⟩ := h2 h7 h8
  unfold IUm at h3
  rw [h8, h5] at h3
  simp only [cond_false, cond_true] at h3
  obtain ⟨hrow, r, e5, hR, hL, H, k1, k2, k3, k4, k5⟩ := h3
  obtain ⟨a, x', hrun, hO, hgr, hw⟩ := hL.app ty k1 hy k4 k3 (NdF.plain x _ 0 0 ⟨#[]⟩) k2 (by omega)
  rw [← e7] at hrun
  have hB0 : ∀ b, vs.v.ownBlock = some b → B ≤ b := fun b hb => (hL.lt b hb).1
  have hne : ∀ b, b < B → b < x.heap.size → x'.heap[b]? = x.heap[b]? := fun b hb hl => hgr.block b hl (fun e => by have := hB0 b e.symm; omega)
  refine ⟨a.v, x', hrun, ⟨h1.turn hgr (fun b hb hx => hL.off b hb hx), ⟨fun _ b => by simp [upB] at b, fun b => ?_⟩, ?_⟩, Kj.own hgr (fun b hb => by have := hB0 b hb; omega)⟩
  · have e9 : upB d 8 9 = d 9 := rfl
    rw [e9, h9] at b; cases b
  · unfold IUm
    rw [show upB d 8 8 = true from rfl]
    simp only [cond_true]
    refine ⟨h5, r, a, e5, rfl, ?_, hR.other fun b hb hl => hne b (by omega) hl, ?_, ?_, ?_⟩
    · rw [hO.num, hL.num]; simp
    · rw [show upB d 8 13 = false from h13]
      exact hrow.block (hne gn hgB hrow.lt)
    · rw [show upB d 8 10 = false from h10]
      exact hO
    · have h9 := k5.low
      refine (h9.ag hgr.size fun b hb hl => hgr.block b hl (fun e => by have := k3 b e.symm; have := hb.1; omega)).mono fun b hb => ⟨by have := hb.1; omega, fun e => ?_, fun hx => by have := k4 b hx; have := hb.1; omega⟩
      rcases hw b e with e1 | e1
      · have := k3 b e1; have := hb.1; omega
      · have := hb.2; omega
theorem IU.put {d : Nat → Bool} {u : Nat → Value} {x : World} (h : IU g gn L ts en s q B ks vs kb rs vals d u x) (h8 : d 8 = true) (h9 : d 9 = true) (h10 : d 10 = false) :
    ∃ x', (bigStore 55 (u 9) (u 5)).run Tryz.prog x = .ok .skip x' ∧ IU g gn L ts en s q B ks vs kb rs vals (upB d 10) (upV u 10 undef) x' ∧ Kj g gn x x' := by
  obtain ⟨h1, ⟨h2, h29⟩, h3⟩ := h
  have hg := h1.gs
  have hgB := h1.gB
  obtain ⟨-, ga, ca, e8, e9⟩ := h29 h9
  unfold IUm at h3
  rw [h8, h10] at h3
  simp only [cond_true] at h3
  obtain ⟨h5, r, a, k1, k2, k3, k4, k5, k6, k7⟩ := h3
  have ea : a = ⟨some ⟨ga, 0, none⟩, vs.n + 1, ca⟩ := by
    rw [k2] at e8
    unfold Sl.v at e8
    simp only [Value.slice.injEq] at e8
    obtain ⟨x9, n9, c9⟩ := a
    simp only at e8
    obtain ⟨rfl, rfl, rfl⟩ := e8
    rfl
  have hnum := k6.num
  rw [ea] at hnum
  simp only [List.length_append, List.length_cons, List.length_nil] at hnum
  have ho := k6.own
  rw [ea] at ho
  have ho2 : OwnK ndE x B (.slice (some ⟨ga, 0, none⟩) (vs.n + 1) ca) (rs ++ [rnZ]) := ho
  have hst := ho2.store ndE_ok vs.n r (by omega)
  have hput := ho2.put ndE_ok vs.n r (by omega)
  have hset : (rs ++ [rnZ]).set vs.n r = rs ++ [r] := by
    rw [show vs.n = rs.length by omega, List.set_append_right _ _ (Nat.le_refl _), Nat.sub_self]; rfl
  rw [hset] at hput
  have hgr := grown_setC x ga (vs.n * ndE.k) (ndE.enc r)
  have hga : a.v.ownBlock = some ga := by rw [ea]; rfl
  have hgaB := k6.lt ga hga
  have hne : ∀ b, b ≠ ga → b < x.heap.size → (x.setCells ga (vs.n * ndE.k) (ndE.enc r)).heap[b]? = x.heap[b]? := fun b hb hl => hgr.block b hl (fun e => hb (Option.some.inj e))
  refine ⟨x.setCells ga (vs.n * ndE.k) (ndE.enc r), ?_, ⟨h1.turn hgr (fun b e hx => by cases e; exact k6.off ga hga hx), ⟨fun a b => ?_, h29⟩, ?_⟩, Kj.own hgr (fun b e => by cases e; omega)⟩
  · rw [e9, k1]
    simp only [bigStore, Sem.run_bind]
    rw [show (Instr.storeAt 55 (.pointer (some ⟨ga, vs.n * 5, none⟩)) (.agg (rnA r))).run Tryz.prog x = .ok () (x.setCells ga (vs.n * ndE.k) (ndE.enc r)) from hst]
    rfl
  · rw [show upB d 10 8 = d 8 from rfl, h8] at b; cases b
  · unfold IUm
    rw [show upB d 10 8 = true from h8, show upB d 10 10 = true from rfl]
    simp only [cond_true]
    refine ⟨h5, r, a, k1, k2, k3, k4.other fun b hb hl => hne b (by omega) hl, ?_, ⟨?_, k6.off, by have := k6.len; simp at this ⊢; omega, ?_⟩, k7.ag hgr.size fun b hb hl => hne b (fun e => hb.2.1 (by rw [hga, e])) hl⟩
    · rw [show upB d 10 13 = d 13 from rfl]
      exact k5.block (hne gn (by omega) k5.lt)
    · rw [ea]; exact hput
    · intro i a9 e9 hi hj
      have hlen := k6.len
      simp at hlen
      by_cases hlt : i < rs.length
      · rw [List.getElem?_append_left hlt] at hi
        rw [List.getElem?_append_left (by omega)] at hj
        exact (k6.el i a9 e9 (by rw [List.getElem?_append_left hlt]; exact hi) (by rw [List.getElem?_append_left (by omega)]; exact hj)).ag hgr.size fun b hb hl => hne b (fun e => hb.2.1 (by rw [hga, e])) hl
      · have hi0 : i = rs.length := by have := (List.getElem?_eq_some_iff.1 hi).1; simp at this; omega
        subst hi0
        rw [List.getElem?_append_right (Nat.le_refl _), Nat.sub_self] at hi
        rw [hlen, List.getElem?_append_right (Nat.le_refl _), Nat.sub_self] at hj
        simp at hi hj
        subst hi hj
        exact k7.ag hgr.size fun b hb hl => hne b (fun e => hb.2.1 (by rw [hga, e])) hl
theorem IU.set {d : Nat → Bool} {u : Nat → Value} {x : World} (h : IU g gn L ts en s q B ks vs kb rs vals d u x) (h8 : d 8 = true) (h13 : d 13 = false) : IU g gn L ts en s q B ks vs kb rs vals (upB d 13) (upV u 13 undef) (x.setCell ⟨gn, 4, none⟩ (u 8)) ∧ Kj g gn x (x.setCell ⟨gn, 4, none⟩ (u 8)) ∧ x.cell? ⟨gn, 4, none⟩ = some vs.v ∧ x.frozen? ⟨gn, 4, none⟩ = false := by
  obtain ⟨h1, ⟨h2, h29⟩, h3⟩ := h
  have hg := h1.gs
  have hgB := h1.gB
  unfold IUm at h3
  rw [h8, h13] at h3
  simp only [cond_true] at h3
  obtain ⟨h5, r, a, k1, k2, k3, k4, k5, k6, k7⟩ := h3
  have hgr := grown_set1 x gn 4 (u 8)
  have hne : ∀ b, b ≠ gn → b < x.heap.size → (x.setCell ⟨gn, 4, none⟩ (u 8)).heap[b]? = x.heap[b]? := fun b hb hl => hgr.block b hl (fun e => hb (Option.some.inj e))
  refine ⟨⟨h1.turn hgr (fun b e hx => by cases e; have := (h1.low _ hx).1; omega), ⟨fun _ b => ?_, h29⟩, ?_⟩, Kj.mine hgr (Nat.le_refl _), k5.cell 4, k5.frozen 4⟩
  · rw [show upB d 13 8 = d 8 from rfl, h8] at b; cases b
  · unfold IUm
    rw [show upB d 13 8 = true from h8, show upB d 13 13 = true from rfl, show upB d 13 10 = d 10 from rfl]
    simp only [cond_true]
    refine ⟨h5, r, a, k1, k2, k3, k4.other fun b hb hl => hne b (by omega) hl, ?_, k6.ag hgr.size fun b hb _ hl => hne b (by omega) hl, k7.ag hgr.size fun b hb hl => hne b (by have := hb.1; omega) hl⟩
    rw [k2]
    exact k5.set 4 a.v
end Go.Proofs.YtalnbddkhojjbaaGreatDoor
namespace Go.Proofs.YtalnbddkhojjbaaGreatDoor
open Go.RowKit

/-! assayref15.Reader: pair -/
structure ObO (w : World) (gn B : Nat) (ks vs : Sl) (kb : List ByteArray) (rs : List Rn) (keys : List (List UInt8)) (vals : List Nd) : Prop where
  row : RowC w gn (rnA (obN ks vs))
  kown : OwnG 9 w B ks.v (strs kb)
  kk : kb.map lS = keys
  lst : LsO w B (kX ks) vs rs vals
  gB : gn < B
  sz : B ≤ w.heap.size
variable {w w' : World} {g gn B : Nat} {L ks vs : Sl} {ts : List Tk} {en : Int} {kb : List ByteArray} {rs : List Rn} {keys : List (List UInt8)} {vals : List Nd}
theorem ObO.grown (h : ObO w gn B ks vs kb rs keys vals) (hg : w.grownBy w' (some g)) (hgn : g < gn) : ObO w' gn B ks vs kb rs keys vals where
  row := h.row.block (hg.block gn h.row.lt (fun e => by cases e; omega))
  kown := h.kown.grown hg (by
    have := h.gB
    cases hk : ks.v.ownBlock with
    | none => exact .inl rfl
    | some b => exact .inr (fun e => by cases e; have := (h.kown.lt _ hk).1; omega))
  kk := h.kk
  lst := h.lst.ag hg.size (fun b hb _ hl => hg.block b hl (fun e => by cases e; have := h.gB; omega))
  gB := h.gB
  sz := Nat.le_trans h.sz hg.size
theorem LsO.reX {X X' : Nat → Prop} (h : LsO w B X vs rs vals) (hX : ∀ b, X' b → X b ∨ w.heap.size ≤ b) : LsO w B X' vs rs vals where
  own := h.own
  off := fun b hb hx => (hX b hx).elim (h.off b hb) (fun h9 => by have := (h.lt b hb).2; omega)
  len := h.len
  el := fun i a d hi hj => (h.el i a d hi hj).low.mono fun b hb => ⟨hb.1.1, hb.1.2.1, fun hx => (hX b hx).elim hb.1.2.2 (fun h9 => by have := hb.2; omega)⟩
/-- The keys with one more, stored into the object. -/
theorem ObO.key {g' c' : Nat} {w6 : World} {KEY : ByteArray} (h : ObO w gn B ks vs kb rs keys vals) (hO : OwnG 9 w6 B (.slice (some ⟨g', 0, none⟩) (kb.length + 1) c') (strs kb ++ [.string KEY])) (hg : w.grownBy w6 ks.v.ownBlock) (hw : ks.v.ownBlock = some g' ∨ g' = w.heap.size) :
    ObO (w6.setCell ⟨gn, 3, none⟩ (.slice (some ⟨g', 0, none⟩) (kb.length + 1) c')) gn B ⟨some ⟨g', 0, none⟩, kb.length + 1, c'⟩ vs (kb ++ [KEY]) rs (keys ++ [lS KEY]) vals ∧ Kj g gn w (w6.setCell ⟨gn, 3, none⟩ (.slice (some ⟨g', 0, none⟩) (kb.length + 1) c')) ∧ w6.cell? ⟨gn, 3, none⟩ = some ks.v ∧ w6.frozen? ⟨gn, 3, none⟩ = false := by
  have hgB := h.gB
  have hlow : ∀ b, ks.v.ownBlock = some b → B ≤ b ∧ b < w.heap.size := fun b hb => h.kown.lt b hb
  have hrow6 : RowC w6 gn (rnA (obN ks vs)) := h.row.block (hg.block gn h.row.lt (fun e => by have := (hlow gn e.symm).1; omega))
  have hs := grown_set1 w6 gn 3 (.slice (some ⟨g', 0, none⟩) (kb.length + 1) c')
  have hX : ∀ b, kX ⟨some ⟨g', 0, none⟩, kb.length + 1, c'⟩ b → kX ks b ∨ w.heap.size ≤ b := fun b hb => by
    cases hb
    rcases hw with hw | hw
    · exact .inl hw
    · exact .inr (by show w.heap.size ≤ g'; omega)
  have hL := h.lst.reX hX
  have hL6 : LsO w6 B (kX ⟨some ⟨g', 0, none⟩, kb.length + 1, c'⟩) vs rs vals := by
    have h9 := h.lst.ag hg.size (fun b hb hx hl => hg.block b hl (fun e => hx e.symm))
    refine ⟨h9.own, hL.off, h9.len, fun i a d hi hj => ?_⟩
    have h8 := (h.lst.el i a d hi hj).low
    refine (h8.ag hg.size fun b hb hl => hg.block b hl (fun e => hb.1.2.2 e.symm)).mono fun b hb => ⟨hb.1.1, hb.1.2.1, fun hx => (hX b hx).elim hb.1.2.2 (fun h9 => by have := hb.2; omega)⟩
  refine ⟨⟨hrow6.set 3 _, ?_, ?_, hL6.ag hs.size (fun b hb _ hl => hs.block b hl (fun e => by cases e; omega)), hgB, Nat.le_trans (Nat.le_trans h.sz hg.size) hs.size⟩, (Kj.own hg (fun b hb => by have := (hlow b hb).1; omega)).trans (Kj.mine hs (Nat.le_refl _)), hrow6.cell 3, hrow6.frozen 3⟩
  · have h9 : OwnG 9 w6 B (Sl.v ⟨some ⟨g', 0, none⟩, kb.length + 1, c'⟩) (strs (kb ++ [KEY])) := by
      rw [show strs (kb ++ [KEY]) = strs kb ++ [.string KEY] by simp [strs]]; exact hO
    refine h9.grown hs (.inr fun e => ?_)
    have := (h9.lt _ e).1
    omega
  · rw [List.map_append, h.kk]; rfl
end Go.Proofs.YtalnbddkhojjbaaGreatDoor
namespace Go.Proofs.YtalnbddkhojjbaaGreatDoor
open Go.RowKit

/-! assayref15.Reader: object -/
end Go.Proofs.YtalnbddkhojjbaaGreatDoor
namespace Go.Proofs.YtalnbddkhojjbaaGreatDoor
open Go.RowKit

/-! assayref15.Reader: value; Parse -/
end Go.Proofs.YtalnbddkhojjbaaGreatDoor
namespace Go.Proofs.YtalnbddkhojjbaaGreatDoor
open Go.RowKit

/-! assayref15.Parse -/
theorem cutF_len15 (l : List UInt8) : ∀ f k out ts p, cutF l f k out = (some ts, p) → ts.length ≤ out.length + f
  | 0, k, out, ts, p, h => by simp [cutF] at h
  | f + 1, k, out, ts, p, h => by
    rw [cutF] at h
    split at h
    · split at h
      · have := cutF_len15 l f _ _ _ _ h; omega
      · split at h
        · simp at h
        · have := cutF_len15 l f _ _ _ _ h
          simp at this; omega
    · simp at h; rw [← h.1]; omega
theorem cutL_len15 (l : List UInt8) : (cutL l).length ≤ 4097 := by
  unfold cutL
  split
  · simp
  · cases h : (cutA l).1 with
    | none => simp
    | some ts =>
      have := cutF_len15 l (l.length + 1) 0 [] ts (cutA l).2 (by rw [← h]; rfl)
      simp at this ⊢; omega
end Go.Proofs.YtalnbddkhojjbaaGreatDoor
