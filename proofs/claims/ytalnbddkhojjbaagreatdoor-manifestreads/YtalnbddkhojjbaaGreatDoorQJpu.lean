import Derived.Test.YtalnbddkhojjbaaGreatDoorQJop
import Derived.Test.YtalnbddkhojjbaaGreatDoorQRelt
namespace Go.Proofs.YtalnbddkhojjbaaGreatDoor
open Go.RowKit

def obN (ks vs : Sl) : Rn := ⟨6, 0, ⟨#[]⟩, ks, vs⟩
def kX (ks : Sl) : Nat → Prop := fun b => ks.v.ownBlock = some b
@[go_sem] theorem run_ndBS_z (w : World) : (ndBS (.agg #[.int .i64 0, .int .i64 0, .string ⟨#[]⟩, .slice none 0 0, .slice none 0 0])).run Tryz.prog w = .ok (.value (.slice (some ⟨w.heap.size, 0, none⟩) 1 1)) (w.alloc (.cells (rnA rnZ) 55)) := run_ndBS w rnZ
structure IUc (x : World) (g gn B : Nat) (ks : Sl) (kb : List ByteArray) : Prop where
  kown : OwnG 9 x B ks.v (strs kb)
  gs : g < gn
  gB : gn < B
  sz : B ≤ x.heap.size
def IU7 (g : Nat) (d : Nat → Bool) (u : Nat → Value) (x : World) : Prop := d 7 = true → d 8 = false → ∃ y, u 7 = .slice (some ⟨y, 0, none⟩) 1 1 ∧ g < y ∧ RowC x y (rnA rnZ)
def IU9 (n : Nat) (d : Nat → Bool) (u : Nat → Value) : Prop := d 9 = true → d 8 = true ∧ ∃ ga ca, u 8 = .slice (some ⟨ga, 0, none⟩) (n + 1) ca ∧ u 9 = .pointer (some ⟨ga, n * 5, none⟩)
def IU8 (g gn : Nat) (L : Sl) (ts : List Tk) (en : Int) (q : Nd × Ps) (B : Nat) (ks vs : Sl) (rs : List Rn) (vals : List Nd) (d10 d13 : Bool) (u5 u8 : Value) (x : World) : Prop :=
  ∃ (r : Rn) (a : Sl), u5 = .agg (rnA r) ∧ u8 = a.v ∧ a.n = vs.n + 1 ∧ Rd x g L ts en q.2 ∧ RowC x gn (rnA (obN ks (bif d13 then a else vs))) ∧ LsO x B (kX ks) a (rs ++ [bif d10 then r else rnZ]) (vals ++ [bif d10 then q.1 else ndZ]) ∧ NdF x (fun b => B ≤ b ∧ a.v.ownBlock ≠ some b ∧ ¬ kX ks b) r q.1
def IUm (g gn : Nat) (L : Sl) (ts : List Tk) (en : Int) (s : Ps) (q : Nd × Ps) (B : Nat) (ks vs : Sl) (rs : List Rn) (vals : List Nd) (d : Nat → Bool) (u : Nat → Value) (x : World) : Prop :=
  bif d 8 then d 5 = true ∧ IU8 g gn L ts en q B ks vs rs vals (d 10) (d 13) (u 5) (u 8) x
  else RowC x gn (rnA (obN ks vs)) ∧ (bif d 5 then ∃ r, u 5 = .agg (rnA r) ∧ IL1 g L ts en q B (kX ks) vs rs vals r x else IL g L ts en s q B (kX ks) vs rs vals [] x)
def IU (g gn : Nat) (L : Sl) (ts : List Tk) (en : Int) (s : Ps) (q : Nd × Ps) (B : Nat) (ks vs : Sl) (kb : List ByteArray) (rs : List Rn) (vals : List Nd) (d : Nat → Bool) (u : Nat → Value) (x : World) : Prop :=
  IUc x g gn B ks kb ∧ (IU7 g d u x ∧ IU9 vs.n d u) ∧ IUm g gn L ts en s q B ks vs rs vals d u x
variable {g gn : Nat} {L : Sl} {ts : List Tk} {en : Int} {s : Ps} {q : Nd × Ps} {B : Nat} {ks vs : Sl} {kb : List ByteArray} {rs : List Rn} {vals : List Nd}
theorem IUc.later {x x' : World} (h : IUc x g gn B ks kb) (hb : Below x.heap.size x x') : IUc x' g gn B ks kb := ⟨h.kown.keep hb, h.gs, h.gB, Nat.le_trans h.sz hb.size⟩
theorem IUc.turn {x x' : World} {o : Option Nat} (h : IUc x g gn B ks kb) (hg : x.grownBy x' o) (ho : ∀ b, o = some b → ¬ kX ks b) : IUc x' g gn B ks kb :=
  ⟨h.kown.grown hg (by
    cases hk : ks.v.ownBlock with
    | none => exact .inl rfl
    | some b => exact .inr (fun e => ho b e.symm hk)), h.gs, h.gB, Nat.le_trans h.sz hg.size⟩
theorem IUc.low {x : World} (h : IUc x g gn B ks kb) : ∀ b, kX ks b → B ≤ b ∧ b < x.heap.size := fun b hb => h.kown.lt b hb
theorem IU_later : ∀ d u w w', IU g gn L ts en s q B ks vs kb rs vals d u w → Below w.heap.size w w' → IU g gn L ts en s q B ks vs kb rs vals d u w' := by
  rintro d u w w' ⟨h1, ⟨h2, h29⟩, h3⟩ hb
  refine ⟨h1.later hb, ⟨fun a b => ?_, h29⟩, ?_⟩
  · obtain ⟨y, e1, e2, e3⟩ := h2 a b
    exact ⟨y, e1, e2, e3.kept hb⟩
  · unfold IUm at h3 ⊢
    cases h8 : d 8 <;> rw [h8] at h3
    · simp only [cond_false] at h3 ⊢
      refine ⟨h3.1.kept hb, ?_⟩
      cases h5 : d 5 <;> rw [h5] at h3
      · exact IL_later (q := q) [] _ _ h3.2 hb
      · obtain ⟨r, e, h⟩ := h3.2
        exact ⟨r, e, IL1_later h hb⟩
    · simp only [cond_true] at h3 ⊢
      obtain ⟨h5, r, a, e1, e2, e3, e4, e5, e6, e7⟩ := h3
      exact ⟨h5, r, a, e1, e2, e3, e4.stay hb, e5.kept hb, e6.later hb, e7.kept hb⟩
theorem IU_congr : ∀ d d' u u' w, (∀ i ∈ [5, 7, 8, 9, 10, 13], d i = d' i) → (∀ i ∈ [5, 7, 8, 9, 10, 13], d i = true → u i = u' i) → IU g gn L ts en s q B ks vs kb rs vals d u w → IU g gn L ts en s q B ks vs kb rs vals d' u' w := by
  rintro d d' u u' w hd hu ⟨h1, ⟨h2, h29⟩, h3⟩
  have a9 := hd 9 (by simp)
  have a5 := hd 5 (by simp)
  have a7 := hd 7 (by simp)
  have a8 := hd 8 (by simp)
  have a10 := hd 10 (by simp)
  have a13 := hd 13 (by simp)
  refine ⟨h1, ⟨fun a b => ?_, fun a => ?_⟩, ?_⟩
  · rw [← a7] at a
    rw [← a8] at b
    obtain ⟨y, e1, e2⟩ := h2 a b
    exact ⟨y, by rw [← hu 7 (by simp) a]; exact e1, e2⟩
  · rw [← a9] at a
    obtain ⟨e0, ga, ca, e1, e2⟩ := h29 a
    exact ⟨by rw [← a8]; exact e0, ga, ca, by rw [← hu 8 (by simp) e0]; exact e1, by rw [← hu 9 (by simp) a]; exact e2⟩
  · unfold IUm at h3 ⊢
    rw [← a8, ← a5, ← a10, ← a13]
    cases h8 : d 8 <;> rw [h8] at h3
    · simp only [cond_false] at h3 ⊢
      refine ⟨h3.1, ?_⟩
      cases h5 : d 5 <;> rw [h5] at h3
      · exact h3.2
      · rw [← hu 5 (by simp) h5]; exact h3.2
    · simp only [cond_true] at h3 ⊢
      rw [← hu 5 (by simp) h3.1, ← hu 8 (by simp) h8]
      exact h3
theorem IU.row {d : Nat → Bool} {u : Nat → Value} {x : World} (h : IU g gn L ts en s q B ks vs kb rs vals d u x) (h8 : d 8 = false) : RowC x gn (rnA (obN ks vs)) := by
  have := h.2.2
  unfold IUm at this
  rw [h8] at this
  exact this.1
theorem IU.start {d : Nat → Bool} {u : Nat → Value} {x : World} (h : IU g gn L ts en s q B ks vs kb rs vals d u x) (h8 : d 8 = false) (h5 : d 5 = false) : Rd x g L ts en s := by
  have := h.2.2
  unfold IUm at this
  rw [h8, h5] at this
  exact this.2.1
theorem IU.call {d : Nat → Bool} {u : Nat → Value} {x x' : World} {r : Rn} (h : IU g gn L ts en s q B ks vs kb rs vals d u x) (h8 : d 8 = false) (h5 : d 5 = false) (hN : NdF x' (x.heap.size ≤ ·) r q.1) (hR : RdP g L ts en q.2 x x') : IU g gn L ts en s q B ks vs kb rs vals (upB d 5) (upV u 5 (.agg (rnA r))) x' := by
  obtain ⟨h1, ⟨h2, h29⟩, h3⟩ := h
  have hg := h1.gs
  have hgB := h1.gB
  refine ⟨h1.turn hR.2 (fun b e hb => by cases e; have := (h1.low _ hb).1; omega), ⟨fun a b => ?_, fun a => ?_⟩, ?_⟩
  · obtain ⟨y, e1, e2, e3⟩ := h2 (by simpa [upB] using a) h8
    exact ⟨y, by simpa [upV] using e1, e2, e3.block (hR.2.block y e3.lt (fun e => by cases e; omega))⟩
  · have := (h29 (by simpa [upB] using a)).1
    rw [h8] at this; cases this
  · unfold IUm at h3 ⊢
    rw [h8, h5] at h3
    simp only [cond_false] at h3
    have e8 : upB d 5 8 = false := h8
    have e5 : upB d 5 5 = true := rfl
    rw [e8, e5]
    simp only [cond_false, cond_true]
    obtain ⟨r9, e9, h9⟩ := IL.call h3.2 (by omega) hN hR
    exact ⟨h3.1.block (hR.2.block gn h3.1.lt (fun e => by cases e; omega)), r9, by simpa [upV] using e9, h9⟩
theorem IU.build {d : Nat → Bool} {u : Nat → Value} {x : World} (h : IU g gn L ts en s q B ks vs kb rs vals d u x) : IU g gn L ts en s q B ks vs kb rs vals (upB d 7) (upV u 7 (.slice (some ⟨x.heap.size, 0, none⟩) 1 1)) (x.alloc (.cells (rnA rnZ) 55)) := by
  obtain ⟨h1, ⟨h2, h29⟩, h3⟩ := IU_later _ _ _ _ h (below_alloc x (.cells (rnA rnZ) 55))
  refine ⟨h1, ⟨fun _ _ => ⟨x.heap.size, rfl, by have := h1.gs; have := h1.gB; have := h.1.sz; omega, RowC.new _ _ _⟩, fun a => ?_⟩, h3⟩
  obtain ⟨e0, ga, ca, e1, e2⟩ := h29 (by simpa [upB] using a)
  exact ⟨by simpa [upB] using e0, ga, ca, by simpa [upV] using e1, by simpa [upV] using e2⟩
theorem LsO.num {w : World} {B : Nat} {X : Nat → Prop} {v : Sl} {rs : List Rn} {vs : List Nd} (h : LsO w B X v rs vs) : v.n = rs.length := by
  obtain ⟨x, c, he⟩ := (h.own.isK ndE_ok).len
  unfold Sl.v at he
  simp only [Value.slice.injEq] at he
  exact he.2.1
theorem IU.app {d : Nat → Bool} {u : Nat → Value} {x : World} (ty : TypeId) (h : IU g gn L ts en s q B ks vs kb rs vals d u x) (h8 : d 8 = false) (h5 : d 5 = true) (h7 : d 7 = true) (h9 : d 9 = false) (h10 : d 10 = false) (h13 : d 13 = false) (hn : rs.length ≤ 1099511627776) :
    ∃ v x', (Builtin.append_ #[53, 53] ty #[vs.v, u 7]).run Tryz.prog x = .ok v x' ∧ IU g gn L ts en s q B ks vs kb rs vals (upB d 8) (upV u 8 v) x' ∧ Kj g gn x x' := by
  obtain ⟨h1, ⟨h2, h29⟩, h3⟩ := h
  have hg := h1.gs
  have hgB := h1.gB
  obtain ⟨y, e7, hgy, hy⟩ := h2 h7 h8
  unfold IUm at h3
  rw [h8, h5] at h3
  simp only [cond_false, cond_true] at h3
  obtain ⟨hrow, r, e5, hR, hL, H, k1, k2, k3, k4, k5⟩ := h3
  obtain ⟨a, x', hrun, hO, hgr, hw⟩ := hL.app ty k1 hy k4 k3 (NdF.plain x _ 0 0 ⟨#[]⟩) k2 (by omega)
  rw [← e7] at hrun
  have hB0 : ∀ b, vs.v.ownBlock = some b → B ≤ b := fun b hb => (hL.lt b hb).1
  have hne : ∀ b, b < B → b < x.heap.size → x'.heap[b]? = x.heap[b]? := fun b hb hl => hgr.block b hl (fun e => by have := hB0 b e.symm; omega)
  refine ⟨a.v, x', hrun, ⟨h1.turn hgr (fun b hb hx => hL.off b hb hx), ⟨fun _ b => by simp [upB] at b, fun b => ?_⟩, ?_⟩, Kj.own hgr (fun b hb => by have := hB0 b hb; omega)⟩
  · have e9 : upB d 8 9 = d 9 := rfl
    rw [e9, h9] at b; cases b
  · unfold IUm
    rw [show upB d 8 8 = true from rfl]
    simp only [cond_true]
    refine ⟨h5, r, a, e5, rfl, ?_, hR.other fun b hb hl => hne b (by omega) hl, ?_, ?_, ?_⟩
    · rw [hO.num, hL.num]; simp
    · rw [show upB d 8 13 = false from h13]
      exact hrow.block (hne gn hgB hrow.lt)
    · rw [show upB d 8 10 = false from h10]
      exact hO
    · have h9 := k5.low
      refine (h9.ag hgr.size fun b hb hl => hgr.block b hl (fun e => by have := k3 b e.symm; have := hb.1; omega)).mono fun b hb => ⟨by have := hb.1; omega, fun e => ?_, fun hx => by have := k4 b hx; have := hb.1; omega⟩
      rcases hw b e with e1 | e1
      · have := k3 b e1; have := hb.1; omega
      · have := hb.2; omega
theorem IU.at8 {d : Nat → Bool} {u : Nat → Value} {x : World} (h : IU g gn L ts en s q B ks vs kb rs vals d u x) (h8 : d 8 = true) : ∃ ga ca, u 8 = .slice (some ⟨ga, 0, none⟩) (vs.n + 1) ca := by
  obtain ⟨h1, -, h3⟩ := h
  unfold IUm at h3
  rw [h8] at h3
  obtain ⟨h5, r, a, e1, e2, e3, e4, e5, e6, e7⟩ := h3
  have ho := e6.own
  unfold Sl.v at ho
  obtain ⟨b, hx, -⟩ := ho.form (by simp)
  exact ⟨b, a.c, by rw [e2, Sl.v, hx, e3]⟩
theorem IU.idx {d : Nat → Bool} {u : Nat → Value} {x : World} {ga ca : Nat} (h : IU g gn L ts en s q B ks vs kb rs vals d u x) (h8 : d 8 = true) (e8 : u 8 = .slice (some ⟨ga, 0, none⟩) (vs.n + 1) ca) : IU g gn L ts en s q B ks vs kb rs vals (upB d 9) (upV u 9 (.pointer (some ⟨ga, vs.n * 5, none⟩))) x := by
  obtain ⟨h1, ⟨h2, h29⟩, h3⟩ := h
  exact ⟨h1, ⟨h2, fun _ => ⟨h8, ga, ca, e8, rfl⟩⟩, h3⟩
theorem IU.put {d : Nat → Bool} {u : Nat → Value} {x : World} (h : IU g gn L ts en s q B ks vs kb rs vals d u x) (h8 : d 8 = true) (h9 : d 9 = true) (h10 : d 10 = false) :
    ∃ x', (bigStore 55 (u 9) (u 5)).run Tryz.prog x = .ok .skip x' ∧ IU g gn L ts en s q B ks vs kb rs vals (upB d 10) (upV u 10 undef) x' ∧ Kj g gn x x' := by
  obtain ⟨h1, ⟨h2, h29⟩, h3⟩ := h
  have hg := h1.gs
  have hgB := h1.gB
  obtain ⟨-, ga, ca, e8, e9⟩ := h29 h9
  unfold IUm at h3
  rw [h8, h10] at h3
  simp only [cond_true] at h3
  obtain ⟨h5, r, a, k1, k2, k3, k4, k5, k6, k7⟩ := h3
  have ea : a = ⟨some ⟨ga, 0, none⟩, vs.n + 1, ca⟩ := by
    rw [k2] at e8
    unfold Sl.v at e8
    simp only [Value.slice.injEq] at e8
    obtain ⟨x9, n9, c9⟩ := a
    simp only at e8
    obtain ⟨rfl, rfl, rfl⟩ := e8
    rfl
  have hnum := k6.num
  rw [ea] at hnum
  simp only [List.length_append, List.length_cons, List.length_nil] at hnum
  have ho := k6.own
  rw [ea] at ho
  have ho2 : OwnK ndE x B (.slice (some ⟨ga, 0, none⟩) (vs.n + 1) ca) (rs ++ [rnZ]) := ho
  have hst := ho2.store ndE_ok vs.n r (by omega)
  have hput := ho2.put ndE_ok vs.n r (by omega)
  have hset : (rs ++ [rnZ]).set vs.n r = rs ++ [r] := by
    rw [show vs.n = rs.length by omega, List.set_append_right _ _ (Nat.le_refl _), Nat.sub_self]; rfl
  rw [hset] at hput
  have hgr := grown_setC x ga (vs.n * ndE.k) (ndE.enc r)
  have hga : a.v.ownBlock = some ga := by rw [ea]; rfl
  have hgaB := k6.lt ga hga
  have hne : ∀ b, b ≠ ga → b < x.heap.size → (x.setCells ga (vs.n * ndE.k) (ndE.enc r)).heap[b]? = x.heap[b]? := fun b hb hl => hgr.block b hl (fun e => hb (Option.some.inj e))
  refine ⟨x.setCells ga (vs.n * ndE.k) (ndE.enc r), ?_, ⟨h1.turn hgr (fun b e hx => by cases e; exact k6.off ga hga hx), ⟨fun a b => ?_, h29⟩, ?_⟩, Kj.own hgr (fun b e => by cases e; omega)⟩
  · rw [e9, k1]
    simp only [bigStore, Sem.run_bind]
    rw [show (Instr.storeAt 55 (.pointer (some ⟨ga, vs.n * 5, none⟩)) (.agg (rnA r))).run Tryz.prog x = .ok () (x.setCells ga (vs.n * ndE.k) (ndE.enc r)) from hst]
    rfl
  · rw [show upB d 10 8 = d 8 from rfl, h8] at b; cases b
  · unfold IUm
    rw [show upB d 10 8 = true from h8, show upB d 10 10 = true from rfl]
    simp only [cond_true]
    refine ⟨h5, r, a, k1, k2, k3, k4.other fun b hb hl => hne b (by omega) hl, ?_, ⟨?_, k6.off, by have := k6.len; simp at this ⊢; omega, ?_⟩, k7.ag hgr.size fun b hb hl => hne b (fun e => hb.2.1 (by rw [hga, e])) hl⟩
    · rw [show upB d 10 13 = d 13 from rfl]
      exact k5.block (hne gn (by omega) k5.lt)
    · rw [ea]; exact hput
    · intro i a9 e9 hi hj
      have hlen := k6.len
      simp at hlen
      by_cases hlt : i < rs.length
      · rw [List.getElem?_append_left hlt] at hi
        rw [List.getElem?_append_left (by omega)] at hj
        exact (k6.el i a9 e9 (by rw [List.getElem?_append_left hlt]; exact hi) (by rw [List.getElem?_append_left (by omega)]; exact hj)).ag hgr.size fun b hb hl => hne b (fun e => hb.2.1 (by rw [hga, e])) hl
      · have hi0 : i = rs.length := by have := (List.getElem?_eq_some_iff.1 hi).1; simp at this; omega
        subst hi0
        rw [List.getElem?_append_right (Nat.le_refl _), Nat.sub_self] at hi
        rw [hlen, List.getElem?_append_right (Nat.le_refl _), Nat.sub_self] at hj
        simp at hi hj
        subst hi hj
        exact k7.ag hgr.size fun b hb hl => hne b (fun e => hb.2.1 (by rw [hga, e])) hl
theorem IU.set {d : Nat → Bool} {u : Nat → Value} {x : World} (h : IU g gn L ts en s q B ks vs kb rs vals d u x) (h8 : d 8 = true) (h13 : d 13 = false) : IU g gn L ts en s q B ks vs kb rs vals (upB d 13) (upV u 13 undef) (x.setCell ⟨gn, 4, none⟩ (u 8)) ∧ Kj g gn x (x.setCell ⟨gn, 4, none⟩ (u 8)) ∧ x.cell? ⟨gn, 4, none⟩ = some vs.v ∧ x.frozen? ⟨gn, 4, none⟩ = false := by
  obtain ⟨h1, ⟨h2, h29⟩, h3⟩ := h
  have hg := h1.gs
  have hgB := h1.gB
  unfold IUm at h3
  rw [h8, h13] at h3
  simp only [cond_true] at h3
  obtain ⟨h5, r, a, k1, k2, k3, k4, k5, k6, k7⟩ := h3
  have hgr := grown_set1 x gn 4 (u 8)
  have hne : ∀ b, b ≠ gn → b < x.heap.size → (x.setCell ⟨gn, 4, none⟩ (u 8)).heap[b]? = x.heap[b]? := fun b hb hl => hgr.block b hl (fun e => hb (Option.some.inj e))
  refine ⟨⟨h1.turn hgr (fun b e hx => by cases e; have := (h1.low _ hx).1; omega), ⟨fun _ b => ?_, h29⟩, ?_⟩, Kj.mine hgr (Nat.le_refl _), k5.cell 4, k5.frozen 4⟩
  · rw [show upB d 13 8 = d 8 from rfl, h8] at b; cases b
  · unfold IUm
    rw [show upB d 13 8 = true from h8, show upB d 13 13 = true from rfl, show upB d 13 10 = d 10 from rfl]
    simp only [cond_true]
    refine ⟨h5, r, a, k1, k2, k3, k4.other fun b hb hl => hne b (by omega) hl, ?_, k6.ag hgr.size fun b hb _ hl => hne b (by omega) hl, k7.ag hgr.size fun b hb hl => hne b (by have := hb.1; omega) hl⟩
    rw [k2]
    exact k5.set 4 a.v
end Go.Proofs.YtalnbddkhojjbaaGreatDoor
namespace Go.Proofs.YtalnbddkhojjbaaGreatDoor
open Go.RowKit

theorem app1S (w : World) (base y : Nat) (v : Value) (xs : List Value) (u : Value) (ty : TypeId) (h : OwnG 9 w base v xs) (hy : w.cell? ⟨y, 0, none⟩ = some u) (hu : u.oneCell' = true) (hl : xs.length ≤ 1099511627776) (hb : base ≤ w.heap.size) :
    ∃ g' c' w', (Builtin.append_ #[52, 52] ty #[v, .slice (some ⟨y, 0, none⟩) 1 1]).run Tryz.prog w = .ok (.slice (some ⟨g', 0, none⟩) (xs.length + 1) c') w' ∧ OwnG 9 w' base (.slice (some ⟨g', 0, none⟩) (xs.length + 1) c') (xs ++ [u]) ∧ w.grownBy w' v.ownBlock ∧ (v.ownBlock = some g' ∨ g' = w.heap.size) := by
  obtain ⟨i, z, hi, hz, hs, hby, hzs⟩ := eltS.info
  have hm : maxLen = 9223372036854775807 := rfl
  obtain ⟨g, cap, w', hr, h2, h3, h4, h5⟩ := run_append_lies (P := Tryz.prog) w 52 ty base 9 i z 1 16 eltS.ht hi hz hs hby hzs (by omega) v xs.length xs h ⟨y, 0, none⟩ 1 1 [u] (by simp) (fun j z hz => by
    rcases j with _ | j
    · simp at hz; subst hz; rw [addr_add]; exact hy
    · simp at hz) (by simpa using hu) (by omega) (by omega) (by omega) hb _ rfl
  refine ⟨g, cap, w', hr, ?_, h3, h4⟩
  unfold OwnG
  rw [List.length_append]
  exact h2
structure ObO (w : World) (gn B : Nat) (ks vs : Sl) (kb : List ByteArray) (rs : List Rn) (keys : List (List UInt8)) (vals : List Nd) : Prop where
  row : RowC w gn (rnA (obN ks vs))
  kown : OwnG 9 w B ks.v (strs kb)
  kk : kb.map lS = keys
  lst : LsO w B (kX ks) vs rs vals
  gB : gn < B
  sz : B ≤ w.heap.size
variable {w w' : World} {g gn B : Nat} {L ks vs : Sl} {ts : List Tk} {en : Int} {kb : List ByteArray} {rs : List Rn} {keys : List (List UInt8)} {vals : List Nd}
theorem ObO.grown (h : ObO w gn B ks vs kb rs keys vals) (hg : w.grownBy w' (some g)) (hgn : g < gn) : ObO w' gn B ks vs kb rs keys vals where
  row := h.row.block (hg.block gn h.row.lt (fun e => by cases e; omega))
  kown := h.kown.grown hg (by
    have := h.gB
    cases hk : ks.v.ownBlock with
    | none => exact .inl rfl
    | some b => exact .inr (fun e => by cases e; have := (h.kown.lt _ hk).1; omega))
  kk := h.kk
  lst := h.lst.ag hg.size (fun b hb _ hl => hg.block b hl (fun e => by cases e; have := h.gB; omega))
  gB := h.gB
  sz := Nat.le_trans h.sz hg.size
theorem LsO.reX {X X' : Nat → Prop} (h : LsO w B X vs rs vals) (hX : ∀ b, X' b → X b ∨ w.heap.size ≤ b) : LsO w B X' vs rs vals where
  own := h.own
  off := fun b hb hx => (hX b hx).elim (h.off b hb) (fun h9 => by have := (h.lt b hb).2; omega)
  len := h.len
  el := fun i a d hi hj => (h.el i a d hi hj).low.mono fun b hb => ⟨hb.1.1, hb.1.2.1, fun hx => (hX b hx).elim hb.1.2.2 (fun h9 => by have := hb.2; omega)⟩
theorem ObO.key {g' c' : Nat} {w6 : World} {KEY : ByteArray} (h : ObO w gn B ks vs kb rs keys vals) (hO : OwnG 9 w6 B (.slice (some ⟨g', 0, none⟩) (kb.length + 1) c') (strs kb ++ [.string KEY])) (hg : w.grownBy w6 ks.v.ownBlock) (hw : ks.v.ownBlock = some g' ∨ g' = w.heap.size) :
    ObO (w6.setCell ⟨gn, 3, none⟩ (.slice (some ⟨g', 0, none⟩) (kb.length + 1) c')) gn B ⟨some ⟨g', 0, none⟩, kb.length + 1, c'⟩ vs (kb ++ [KEY]) rs (keys ++ [lS KEY]) vals ∧ Kj g gn w (w6.setCell ⟨gn, 3, none⟩ (.slice (some ⟨g', 0, none⟩) (kb.length + 1) c')) ∧ w6.cell? ⟨gn, 3, none⟩ = some ks.v ∧ w6.frozen? ⟨gn, 3, none⟩ = false := by
  have hgB := h.gB
  have hlow : ∀ b, ks.v.ownBlock = some b → B ≤ b ∧ b < w.heap.size := fun b hb => h.kown.lt b hb
  have hrow6 : RowC w6 gn (rnA (obN ks vs)) := h.row.block (hg.block gn h.row.lt (fun e => by have := (hlow gn e.symm).1; omega))
  have hs := grown_set1 w6 gn 3 (.slice (some ⟨g', 0, none⟩) (kb.length + 1) c')
  have hX : ∀ b, kX ⟨some ⟨g', 0, none⟩, kb.length + 1, c'⟩ b → kX ks b ∨ w.heap.size ≤ b := fun b hb => by
    cases hb
    rcases hw with hw | hw
    · exact .inl hw
    · exact .inr (by show w.heap.size ≤ g'; omega)
  have hL := h.lst.reX hX
  have hL6 : LsO w6 B (kX ⟨some ⟨g', 0, none⟩, kb.length + 1, c'⟩) vs rs vals := by
    have h9 := h.lst.ag hg.size (fun b hb hx hl => hg.block b hl (fun e => hx e.symm))
    refine ⟨h9.own, hL.off, h9.len, fun i a d hi hj => ?_⟩
    have h8 := (h.lst.el i a d hi hj).low
    refine (h8.ag hg.size fun b hb hl => hg.block b hl (fun e => hb.1.2.2 e.symm)).mono fun b hb => ⟨hb.1.1, hb.1.2.1, fun hx => (hX b hx).elim hb.1.2.2 (fun h9 => by have := hb.2; omega)⟩
  refine ⟨⟨hrow6.set 3 _, ?_, ?_, hL6.ag hs.size (fun b hb _ hl => hs.block b hl (fun e => by cases e; omega)), hgB, Nat.le_trans (Nat.le_trans h.sz hg.size) hs.size⟩, (Kj.own hg (fun b hb => by have := (hlow b hb).1; omega)).trans (Kj.mine hs (Nat.le_refl _)), hrow6.cell 3, hrow6.frozen 3⟩
  · have h9 : OwnG 9 w6 B (Sl.v ⟨some ⟨g', 0, none⟩, kb.length + 1, c'⟩) (strs (kb ++ [KEY])) := by
      rw [show strs (kb ++ [KEY]) = strs kb ++ [.string KEY] by simp [strs]]; exact hO
    refine h9.grown hs (.inr fun e => ?_)
    have := (h9.lt _ e).1
    omega
  · rw [List.map_append, h.kk]; rfl
theorem failP_two (s : Ps) (e a e' a' : Int) (he : e ≠ 0) : failP (failP s e a) e' a' = failP s e a := by
  unfold failP
  by_cases h : s.e = 0
  · rw [if_pos h, if_neg (by exact he)]
  · rw [if_neg h, if_neg h]
def twk (ts : List Tk) (a : Int) (ks : List (List UInt8)) (s : Ps) (k : Nat) : Ps := if (tkP ts s.i).text ∈ ks.take k then failP (advP s) 33 a else advP s
theorem twk_step (ts : List Tk) (a : Int) (ks : List (List UInt8)) (s : Ps) (k : Nat) (x : List UInt8) (hx : ks[k]? = some x) : twk ts a ks s (k + 1) = if x = (tkP ts s.i).text then failP (twk ts a ks s k) 33 a else twk ts a ks s k := by
  have e : ks.take (k + 1) = ks.take k ++ [x] := by rw [List.take_add_one, hx]; rfl
  unfold twk
  rw [e]
  by_cases h1 : (tkP ts s.i).text ∈ ks.take k
  · rw [if_pos (by simp [h1]), if_pos h1, failP_two _ _ _ _ _ (by decide)]; simp
  · by_cases h2 : x = (tkP ts s.i).text
    · rw [if_pos (by simp [h2]), if_neg h1, if_pos h2]
    · rw [if_neg (by simp [h1]; exact fun e => h2 e.symm), if_neg h1, if_neg h2]
def PrP (g gn B : Nat) (L : Sl) (ts : List Tk) (en : Int) (p : List (List UInt8) × List Nd × Ps) (w : World) (e : Ending) (w' : World) : Prop :=
  e = .returned (.tuple #[]) ∧ ∃ ks vs kb rs, Rd w' g L ts en p.2.2 ∧ ObO w' gn B ks vs kb rs p.1 p.2.1 ∧ Kj g gn w w'
set_option linter.unusedSimpArgs false in
set_option maxRecDepth 100000 in
set_option maxHeartbeats 8000000 in
theorem rdPair_any (f : Nat) (hV : ValOk f) (w : World) (g gn B : Nat) (L ks vs : Sl) (ts : List Tk) (en : Int) (s : Ps) (kb : List ByteArray) (rs : List Rn) (keys : List (List UInt8)) (vals : List Nd) (h : Rd w g L ts en s) (hO : ObO w gn B ks vs kb rs keys vals) (hgn : g < gn) (hop : s.op ≤ s.i) (hf : isP ts 11 s = true → 2 * (ts.length - (s.i + 1)) + 1 ≤ f) (hkl : keys.length ≤ 1099511627776) (hvl : vals.length ≤ 1099511627776) :
    Calls Tryz.prog 105 #[.pointer (some ⟨g, 0, none⟩), .pointer (some ⟨gn, 0, none⟩)] w fun e w' => PrP g gn B L ts en (pairP ts en (prsF ts en f none) keys vals s) w e w' := by
  have hfit := h.fit
  have hA := rdAt_any w g L ts en s h
  obtain ⟨R, hR⟩ : ∃ q, pairP ts en (prsF ts en f none) keys vals s = q := ⟨_, rfl⟩
  rw [hR]
  unfold pairP at hR
  go_enter Tryz.func105, Tryz.ntmps105
  go_wp2_with fail
  refine hA.mono ?_
  rintro e w1 ⟨rfl, hb1⟩
  clear hA
  have h1 := RdP.stay h hb1
  have hI := rdIs_any w1 g L ts en s 11 h1.1
  go_wp2_with fail
  refine hI.mono ?_
  rintro e w2 ⟨rfl, h2⟩
  clear hI
  have h12 := h1.trans h2
  have hO2 := hO.grown h12.2 hgn
  have HK2 : Hid (Kj g gn w w2) := Kj.grown h12.2
  have hR2 := h2.1
  clear h1 h2 h12 hO h hb1
  unfold stpP at hR2
  cases h11 : isP ts 11 s with
  | false =>
    rw [h11] at hR2 hR
    simp only [cond_false] at hR2 hR
    have hF := rdFail_any w2 g L ts en s 31 (atP ts en s) hR2
    go_wp2_with fail
    refine hF.mono ?_
    rintro e w3 ⟨rfl, h3⟩
    clear hF
    have HP : Hid (PrP g gn B L ts en R w (.returned (.tuple #[])) w3) := by
      rw [← hR]
      exact ⟨rfl, ks, vs, kb, rs, h3.1, hO2.grown h3.2 hgn, HK2.out.trans (Kj.grown h3.2)⟩
    clear h3 hO2 HK2 hR
    go_wp2
    exact bodyPost_ret (v := .tuple #[]) (by simp [results, Tryz.f105]) rfl HP.out
  | true =>
    have hi := (isP_spec h11).2.1
    have hf1 := hf h11
    rw [h11] at hR2 hR
    simp only [cond_true] at hR2 hR
    clear hf h11
    have hkk := hO2.kk
    obtain ⟨KEY, hKEY⟩ : ∃ q : ByteArray, ⟨(tkP ts s.i).text.toArray⟩ = q := ⟨_, rfl⟩
    have hKl : lS KEY = (tkP ts s.i).text := by rw [← hKEY]; exact lS_mk _
    obtain ⟨b, hLx, -, -, -, t3⟩ := hR2.tok s.i hi
    obtain ⟨c0, -, c2, -⟩ := hR2.cells
    have hLn := hR2.len
    have HLS : Hid _ := hR2
    obtain ⟨aP, haP⟩ : ∃ q, atP ts en s = q := ⟨_, rfl⟩
    rw [haP]
    have hLv : L.v = .slice (some ⟨b, 0, none⟩) ts.length L.c := by unfold Sl.v; rw [hLx, hLn]
    rw [hLv] at c0
    rw [hKEY] at t3
    replace c2 : w2.cell? ⟨g, 2, none⟩ = some (.int .i64 ((s.i + 1 : Nat) : Int)) := c2
    obtain ⟨i, hi9⟩ : ∃ q, s.i = q := ⟨_, rfl⟩
    obtain ⟨cL, hcL⟩ : ∃ q, L.c = q := ⟨_, rfl⟩
    rw [hi9] at c2 t3
    rw [hcL] at c0
    have i3 : IntKind.i64.wrap (((i + 1 : Nat) : Int) - 1) = (i : Int) := by rw [IntKind.wrap_i64]; omega
    have i4 : IntKind.i64.wrap (i : Int) = (i : Int) := by rw [IntKind.wrap_i64]; omega
    have i1 : (i : Int) < (ts.length : Int) := by omega
    have i0 : (0 : Int) ≤ (i : Int) := by omega
    have HO2 : Hid _ := hO2
    clear hLv hLx hLn hO2 hR2
    go_upto_region 3 with fail
    refine wp_relies [Fx (.pointer (some ⟨g, 0, none⟩)), Fx (.pointer (some ⟨g, 0, none⟩)), Fx (.pointer (some ⟨g, 0, none⟩)), Fx (.slice (some ⟨b, 0, none⟩) ts.length cL), Fx (.pointer (some ⟨g, 0, none⟩)), Fx (.pointer (some ⟨g, 0, none⟩)), Fx (.pointer (some ⟨g, 2, none⟩)), Fx (.int .i64 ((i + 1 : Nat) : Int)), Fx (.int .i64 (i : Int)), Fx (.pointer (some ⟨b, i * 4, none⟩)), Fx (.pointer (some ⟨b, i * 4 + 3, none⟩)), Fx (.string KEY), Fx (.string KEY)] (by kernel_rfl) (by kernel_rfl) ?_ ?_ ?_
    · repeat' (first | exact all_nil | apply all_cons)
      all_goals intro v y y' hv hb
      all_goals first | exact Fx_mono _ _ _ _ hv hb
    · refine ⟨?_, ?_, ?_, ?_, ?_, ?_, ?_, ?_, ?_, ?_, ?_, ?_, ?_, trivial⟩
      all_goals
        intro ρ y9 hp ρc ρg ρf ho hd
        have o0 : ρ (.tmp 0) = .pointer (some ⟨g, 0, none⟩) := ho 0 rfl
        clear ho
        replace c0 := cell_later hp c0
        replace c2 := cell_later hp c2
        replace t3 := cell_later hp t3
        simp only [depsR, depR, slotR, Fx, List.getElem?_cons_succ, List.getElem?_cons_zero, Region.binds, forall_const] at hd
        simp only [guardR]
        go_split_ands
      · go_simp
      · go_simp
      · go_simp
      · go_simp
      · go_simp
      · go_simp
      · go_simp
      · go_simp
      · go_simp
      · go_simp
      · go_simp
      · go_simp
      · go_simp
    · intro us x1 hp1 hw
      simp only [owed, Fx] at hw
      obtain ⟨e0, e1, e2, e3, e4, e5, e6, e7, e8, e9, e10, e11, e12, -⟩ := hw
      simp only [List.length_cons, List.length_nil, List.take_succ_cons, List.take_nil, List.drop_succ_cons, List.drop_nil, asg, List.cons_append, List.nil_append, e0, e1, e2, e3, e4, e5, e6, e7, e8, e9, e10, e11, e12]
      clear e0 e1 e2 e3 e4 e5 e6 e7 e8 e9 e10 e11 e12
      have hO3 : ObO x1 gn B ks vs kb rs keys vals := ObO.grown HO2.out (grown_below (some g) hp1) hgn
      have hR3 : Rd x1 g L ts en (advP s) := Rd.stay HLS.out hp1
      have HK3 : Hid (Kj g gn w x1) := Kj.trans HK2.out (Kj.below hp1)
      clear HO2 HLS HK2 c0 c2 t3 hp1 i3 i4 i1 i0
      have hkn : keys.length = kb.length := by rw [← hkk]; simp
      have HR : Hid _ := hR
      have htw : twk ts aP keys s kb.length = twcP ts en keys s := by unfold twk twcP; rw [haP, ← hkn, List.take_length]
      obtain ⟨xk, nk, ck⟩ := ks
      have hnk := hO3.kown.num
      rw [show (strs kb).length = kb.length by simp [strs]] at hnk
      subst hnk
      have hR30 : Rd x1 g L ts en (twk ts aP keys s 0) := by unfold twk; rw [List.take_zero, if_neg (by simp)]; exact hR3
      have HO3 : Hid _ := hO3
      clear hR hR3 hO3
      go_wp2_with fail
      go_loopw [6] (fun iv wr => ∃ k : Nat, k ≤ kb.length ∧ iv = .int .i64 k ∧ Rd wr g L ts en (twk ts aP keys s k) ∧ x1.grownBy wr (some g)) (fun iv _ => kb.length - (intOf iv).toNat)
      case atStart => exact ⟨0, by omega, rfl, hR30, grown_below _ (Below.refl _ _)⟩
      case round =>
        clear hR30
        obtain ⟨k, hk, rfl, hRk, hGk⟩ := hrel
        have hOk : ObO wr gn B ⟨xk, kb.length, ck⟩ vs kb rs keys vals := ObO.grown HO3.out hGk hgn
        have cn3 : wr.cell? ⟨gn, 3, none⟩ = some (.slice xk kb.length ck) := hOk.row.cell 3
        by_cases hlt : k < kb.length
        · have i1 : (k : Int) < (kb.length : Int) := by omega
          have i0 : (0 : Int) ≤ (k : Int) := by omega
          have hne : strs kb ≠ [] := by intro e; have : (strs kb).length = 0 := by rw [e]; rfl
                                        simp [strs] at this; rw [this] at hlt; simp at hlt
          obtain ⟨gk, c9, e9, -⟩ := hOk.kown.form hne
          simp only [Sl.v, Value.slice.injEq] at e9
          obtain ⟨rfl, -, rfl⟩ := e9
          have ckk : wr.cell? ⟨gk, k, none⟩ = some (.string kb[k]) := OwnG.cell hOk.kown k _ (by simp [strs, hlt])
          have hks : keys[k]? = some (lS kb[k]) := by rw [← hkk]; simp [hlt]
          have hst := twk_step ts aP keys s k _ hks
          obtain ⟨Y, hY⟩ : ∃ q, kb[k] = q := ⟨_, rfl⟩
          rw [hY] at ckk hst
          have hwr : IntKind.i64.wrap ((k : Int) + 1) = (k : Int) + 1 := by rw [IntKind.wrap_i64]; omega
          by_cases hq : lS Y = (tkP ts s.i).text
          · have hqe : (Y.toList == KEY.toList) = true := sEq14 (by rw [hKl]; exact hq)
            rw [if_pos hq] at hst
            have hF := rdFail_any wr g L ts en (twk ts aP keys s k) 33 aP hRk
            rw [← hst] at hF
            clear hst hks hq hRk hOk hY
            go_wp2_with fail
            refine hF.mono ?_
            rintro e w9 ⟨rfl, h9⟩
            clear hF
            have hG9 := grown_two hGk h9.2
            have hR9 := h9.1
            clear h9 ckk cn3
            go_wp2
            go_roundw
            case rel => first | exact ⟨k + 1, by omega, by go_num, hR9, hG9⟩ | ((repeat apply Exists.intro); refine ⟨⟨k + 1, by omega, ?_, hR9, hG9⟩, rfl⟩; go_num)
            case measure => simp [intOf]; omega
          · have hqe : (Y.toList == KEY.toList) = false := sNe14 (by rw [hKl]; exact hq)
            rw [if_neg hq] at hst
            rw [← hst] at hRk
            clear hst hks hq hOk hY
            go_wp2
            go_roundw
            case rel => first | exact ⟨k + 1, by omega, by go_num, hRk, hGk⟩ | ((repeat apply Exists.intro); refine ⟨⟨k + 1, by omega, ?_, hRk, hGk⟩, rfl⟩; go_num)
            case measure => simp [intOf]; omega
        · obtain rfl : k = kb.length := by omega
          have i1 : ¬ (kb.length : Int) < (kb.length : Int) := by omega
          rw [htw] at hRk
          have hN := rdNeed_any wr g L ts en (twcP ts en keys s) 5 hRk
          have HOK : Hid (ObO wr gn B ⟨xk, kb.length, ck⟩ vs kb rs keys vals) := hOk
          have HKK : Hid (Kj g gn w wr) := Kj.trans HK3.out (Kj.grown hGk)
          clear hOk hGk HO3 HK3 hRk
          go_wp2_with fail
          refine hN.mono ?_
          rintro e w5 ⟨rfl, h5⟩
          clear hN cn3
          have hO5 : ObO w5 gn B ⟨xk, kb.length, ck⟩ vs kb rs keys vals := ObO.grown HOK.out h5.2 hgn
          have HK5 : Hid (Kj g gn w w5) := Kj.trans HKK.out (Kj.grown h5.2)
          have hR5 := h5.1
          clear h5 HOK HKK
          have cn3 : w5.cell? ⟨gn, 3, none⟩ = some (.slice xk kb.length ck) := hO5.row.cell 3
          have hba := below_alloc w5 (.cells #[.string KEY] 9)
          have hO5a := hO5.grown (grown_below (some g) hba) hgn
          have hR5a := hR5.stay hba
          have hstl : (strs kb).length = kb.length := by simp [strs]
          obtain ⟨g', c', w6, hr6, hOw6, hg6, hw6⟩ := app1S (w5.alloc (.cells #[.string KEY] 9)) B w5.heap.size (.slice xk kb.length ck) (strs kb) (.string KEY) 52 hO5a.kown (cell_of_row _ _ 0 _ _ _ (heap_alloc_last _ _)) rfl (by omega) hO5a.sz
          rw [hstl] at hr6 hOw6
          obtain ⟨hO7, hK7, c63, z63⟩ := ObO.key (g := g) hO5a hOw6 hg6 hw6
          replace c63 : w6.cell? ⟨gn, 3, none⟩ = some (.slice xk kb.length ck) := c63
          have hs7 := grown_set1 w6 gn 3 (.slice (some ⟨g', 0, none⟩) (kb.length + 1) c')
          have hlow5 : ∀ b, (Value.slice xk kb.length ck).ownBlock = some b → B ≤ b := fun b hb => (hO5a.kown.lt b hb).1
          have hgB := hO5.gB
          have hR7 : Rd (w6.setCell ⟨gn, 3, none⟩ (.slice (some ⟨g', 0, none⟩) (kb.length + 1) c')) g L ts en (needP ts en 5 (twcP ts en keys s)) := by
            have hR6 : Rd w6 g L ts en (needP ts en 5 (twcP ts en keys s)) := hR5a.other fun b hb hl => hg6.block b hl (fun e => by have := hlow5 b e.symm; omega)
            exact hR6.other fun b hb hl => hs7.block b hl (fun e => by cases e; omega)
          have HK7 : Hid (Kj g gn w (w6.setCell ⟨gn, 3, none⟩ (.slice (some ⟨g', 0, none⟩) (kb.length + 1) c'))) := (Kj.trans HK5.out (Kj.below hba)).trans hK7
          obtain ⟨xv, nv, cv⟩ := vs
          have hok : okP ts none (needP ts en 5 (twcP ts en keys s)) := ⟨(needP_i ts en 5 _ (by simp; omega)).2, by have := (needP_i ts en 5 (twcP ts en keys s) (by simp; omega)).1; simp at this ⊢; omega, trivial⟩
          have hfl : 2 * (ts.length - (needP ts en 5 (twcP ts en keys s)).i) + 1 ≤ f := by have := (needP_i ts en 5 (twcP ts en keys s) (by simp; omega)).1; simp at this; omega
          have hval := fun x hx => hV x g L ts en (needP ts en 5 (twcP ts en keys s)) hx hok hfl
          have hrl : rs.length ≤ 1099511627776 := by rw [hO7.lst.len]; exact hvl
          have HI0 : Hid (IU g gn L ts en (needP ts en 5 (twcP ts en keys s)) (prsF ts en f none (needP ts en 5 (twcP ts en keys s))) B ⟨some ⟨g', 0, none⟩, kb.length + 1, c'⟩ ⟨xv, nv, cv⟩ (kb ++ [KEY]) rs vals (fun _ => false) (fun _ => undef) (w6.setCell ⟨gn, 3, none⟩ (.slice (some ⟨g', 0, none⟩) (kb.length + 1) c'))) :=
            ⟨⟨hO7.kown, hgn, hO7.gB, hO7.sz⟩, ⟨fun a _ => absurd a (by simp), fun a => absurd a (by simp)⟩, hO7.row, hR7, hO7.lst, hO7.sz, fun b hb => (hO7.kown.lt b hb).2⟩
          have HKK7 : Hid (List.map lS (kb ++ [KEY]) = keys ++ [(tkP ts s.i).text]) := by show _ = _; rw [hO7.kk, hKl]
          obtain ⟨s3, hs3⟩ : ∃ q, needP ts en 5 (twcP ts en keys s) = q := ⟨_, rfl⟩
          have HR9 : Hid _ := HR.out
          rw [hs3] at HI0 HR9
          simp only [hs3] at hval
          obtain ⟨q, hq⟩ : ∃ q, prsF ts en f none s3 = q := ⟨_, rfl⟩
          rw [hq] at HI0 HR9
          simp only [hq] at hval
          clear hO7 hK7 hR7 hs7 hR5a hO5a hR5 hO5 HK5 hg6 hOw6 hw6 hba HR hok hfl hs3 hq hlow5
          go_upto_region 11 with (at_builtin; refine wpL_appG 52 rfl _ _ rfl _ w6 (by exact hr6) ?_)
          generalize w6.setCell ⟨gn, 3, none⟩ (.slice (some ⟨g', 0, none⟩) (kb.length + 1) c') = W at HI0 HK7 ⊢
          clear hr6 c63 z63 cn3
          refine wp_reliesU (kokJ (g := g) (B := gn)) (IU g gn L ts en s3 q B ⟨some ⟨g', 0, none⟩, kb.length + 1, c'⟩ ⟨xv, nv, cv⟩ (kb ++ [KEY]) rs vals) [5, 7, 8, 9, 10, 13] [Fx (.pointer (some ⟨gn, 0, none⟩)), Fx (.pointer (some ⟨gn, 0, none⟩)), Fx (.pointer (some ⟨gn, 4, none⟩)), Fx (.slice xv nv cv), Fx (.pointer (some ⟨g, 0, none⟩)), (fun _ _ => True), Fx (.int .i64 (nv : Int)), (fun _ _ => True), (fun _ _ => True), (fun _ _ => True), (fun _ _ => True), Fx (.pointer (some ⟨gn, 0, none⟩)), Fx (.pointer (some ⟨gn, 4, none⟩)), (fun _ _ => True)] (by kernel_rfl) (by kernel_rfl) (by kernel_rfl) (by kernel_rfl) (by exact HI0.out) IU_later IU_congr ?_ ?_ ?_
          · repeat' (first | exact all_nil | apply all_cons)
            all_goals intro v y y' hv hb
            all_goals first | exact (show Fx _ _ _ from hv) | exact trivial
          · refine ⟨?_, ?_, ?_, ?_, ?_, ?_, ?_, ?_, ?_, ?_, ?_, ?_, ?_, ?_, trivial⟩
            all_goals
              intro ρ x dn hk hat hrd ρc ρg ρf ho hd
              have o0 : ρ (.tmp 0) = .pointer (some ⟨g, 0, none⟩) := ho 0 rfl
              have o1 : ρ (.tmp 1) = .pointer (some ⟨gn, 0, none⟩) := ho 1 rfl
              clear ho
              simp only [depsR, depR, slotR, Fx, List.getElem?_cons_succ, List.getElem?_cons_zero, Region.binds, forall_const] at hd
              simp only [guardR, List.contains_cons, List.contains_nil, List.elem_cons, List.elem_nil, Nat.reduceBEq, Bool.or_false, Bool.false_or, Bool.or_true, Bool.true_or, cond_true, cond_false]
              go_split_ands
            · go_simp
            · go_simp
            · go_simp
            · have hr9 := (IU.row hat (hrd.later [] 8 (by kernel_rfl))).cell 4
              replace hr9 : x.cell? ⟨gn, 4, none⟩ = some (.slice xv nv cv) := hr9
              go_simp
            · go_simp
            · have h8 := hrd.later [] 8 (by kernel_rfl)
              have h5n := hrd.no
              go_simp
              refine (hval x (IU.start hat h8 h5n)).mono ?_
              rintro e x' ⟨r9, rfl, hN9, hR9⟩
              exact ⟨_, rfl, ⟨trivial, IU.call hat h8 h5n hN9 hR9⟩, Kj.grown hR9.2⟩
            · go_simp
            · go_simp
              exact ⟨⟨trivial, IU.build hat⟩, Kj.below (below_alloc _ _)⟩
            · have hd1 : ρ (.tmp 63) = .slice xv nv cv := by first | assumption | exact hd.1
              obtain ⟨v9, x9, hr9, i9, k9⟩ := IU.app 53 hat hrd.no (hrd.yes 5 (by kernel_rfl)) (hrd.yes 7 (by kernel_rfl)) (hrd.later [] 9 (by kernel_rfl)) (hrd.later [] 10 (by kernel_rfl)) (hrd.later [] 13 (by kernel_rfl)) hrl
              have hr8 : (Builtin.append_ #[53, 53] 53 #[.slice xv nv cv, ρ (.tmp 67)]).run Tryz.prog x = .ok v9 x9 := hr9
              rw [BigFrame.execOp_builtin, BigFrame.builtin_append]
              simp only [List.map_toArray, List.map_cons, List.map_nil, hd1, hr8, Sem.run_bind, Result.andThen_ok, Sem.run_pure, okUponD_some]
              exact ⟨⟨trivial, i9⟩, k9⟩
            · have h8 := hrd.yes 8 (by kernel_rfl)
              obtain ⟨ga, ca, e8⟩ := IU.at8 hat h8
              have i9 := IU.idx hat h8 e8
              replace e8 : ρ (.tmp 68) = .slice (some ⟨ga, 0, none⟩) (nv + 1) ca := e8
              have j1 : (nv : Int) < (nv : Int) + 1 := by omega
              have j0 : (0 : Int) ≤ (nv : Int) := by omega
              go_simp
              exact ⟨⟨trivial, i9⟩, Kj.below (Below.refl _ _)⟩
            · obtain ⟨x9, hr9, i9, k9⟩ := IU.put hat (hrd.yes 8 (by kernel_rfl)) (hrd.yes 9 (by kernel_rfl)) hrd.no
              have hr8 : (bigStore 55 (ρ (.tmp 69)) (ρ (.tmp 65))).run Tryz.prog x = .ok .skip x9 := hr9
              simp only [execOp_store_nd, hr8, okUponD_none, okSkip_skip]
              exact ⟨⟨trivial, i9⟩, k9⟩
            · go_simp
            · go_simp
            · have h8 := hrd.yes 8 (by kernel_rfl)
              obtain ⟨ga, ca, e8⟩ := IU.at8 hat h8
              obtain ⟨i9, k9, cc9, zz9⟩ := IU.set hat h8 hrd.no
              rw [e8] at i9 k9
              replace cc9 : x.cell? ⟨gn, 4, none⟩ = some (.slice xv nv cv) := cc9
              replace e8 : ρ (.tmp 68) = .slice (some ⟨ga, 0, none⟩) (nv + 1) ca := e8
              go_simp
              first | exact ⟨⟨trivial, i9⟩, k9⟩ | exact ⟨trivial, i9⟩
          · intro us x2 hk hw hI
            simp only [owed, Fx] at hw
            obtain ⟨e0, e1, e2, e3, e4, e5, e6, e7, e8, e9, e10, e11, e12, e13, -⟩ := hw
            simp only [asg, e0, e1, e2, e3, e4, e6, e11, e12]
            clear e0 e1 e2 e3 e4 e6 e11 e12 e5 e7 e8 e9 e10 e13
            obtain ⟨hc9, -, hm9⟩ := hI
            have hm8 : true = true ∧ IU8 g gn L ts en q B ⟨some ⟨g', 0, none⟩, kb.length + 1, c'⟩ ⟨xv, nv, cv⟩ rs vals true true (us 5) (us 8) x2 := hm9
            obtain ⟨-, r9, a9, -, -, -, hR9, hrow9, hL9, -⟩ := hm8
            have HP : Hid (PrP g gn B L ts en R w (.returned (.tuple #[])) x2) := by
              rw [← HR9.out]
              exact ⟨rfl, ⟨some ⟨g', 0, none⟩, kb.length + 1, c'⟩, a9, kb ++ [KEY], rs ++ [r9], hR9, ⟨hrow9, hc9.kown, HKK7.out, hL9, hc9.gB, hc9.sz⟩, Kj.trans HK7.out hk⟩
            clear hR9 hrow9 hL9 hc9 hm9 HI0 HK7 HR9 hval hk
            go_wp2
            go_end0
            exact HP.out
end Go.Proofs.YtalnbddkhojjbaaGreatDoor
namespace Go.Proofs.YtalnbddkhojjbaaGreatDoor
open Go.RowKit

theorem pairP_ok (ts : List Tk) (en : Int) (f : Nat) (ks : List (List UInt8)) (vs : List Nd) (s : Ps) (h1 : s.i ≤ ts.length) (h2 : s.op ≤ s.i) (hf : isP ts 11 s = true → 2 * (ts.length - (s.i + 1)) + 1 ≤ f) : leP ts none s (pairP ts en (prsF ts en f none) ks vs s).2.2 ∧ (pairP ts en (prsF ts en f none) ks vs s).1.length ≤ ks.length + 1 ∧ (pairP ts en (prsF ts en f none) ks vs s).2.1.length ≤ vs.length + 1 := by
  unfold pairP
  cases h11 : isP ts 11 s with
  | true =>
    have hi := (isP_spec h11).2.1
    have hf1 := hf h11
    simp only [cond_true]
    have hn := needP_i ts en 5 (twcP ts en ks s) (by simp; omega)
    simp at hn
    obtain ⟨a, b, c⟩ := prsF_ok ts en f none (needP ts en 5 (twcP ts en ks s)) (by simp; omega) ⟨by omega, by simp; omega, trivial⟩
    simp at c
    exact ⟨⟨by omega, b, by simp only; omega⟩, by simp, by simp⟩
  | false => simp only [cond_false]; exact ⟨leP_fail _ _ h1, by omega, by omega⟩
theorem Sl.own_inG {w : World} {B : Nat} {a : Sl} {xs : List Value} {e : TypeId} (h : OwnG e w B a.v xs) : a.In (B ≤ ·) := fun h0 p hp => by
  obtain ⟨hn, ⟨h1, h2⟩ | ⟨g, cap, cur, he, hb, -⟩⟩ := h
  · unfold Sl.v at h1; simp only [Value.slice.injEq] at h1; rw [h1.1] at hp; cases hp
  · unfold Sl.v at he; simp only [Value.slice.injEq] at he
    rw [he.1] at hp; cases hp; exact hb
def OInv (f n0 g g2 g3 B : Nat) (L : Sl) (ts : List Tk) (en : Int) (w : World) (R : Nd × Ps) (wr : World) : Prop :=
  ∃ (t : Ps) (keys : List (List UInt8)) (vals : List Nd) (ks vs : Sl) (kb : List ByteArray) (rs : List Rn) (f' : Nat), Rd wr g L ts en t ∧ ObO wr g3 B ks vs kb rs keys vals ∧ RowC wr g2 (rnA rnZ) ∧ Kj g n0 w wr ∧
    t.i ≤ ts.length ∧ t.op ≤ t.i ∧ 1 ≤ t.op ∧ keys.length ≤ t.i ∧ vals.length ≤ t.i ∧ f' < f ∧ 2 * (ts.length - t.i) ≤ f' ∧ objE ts en (prsF ts en f') (keys, vals, t) = R
set_option linter.unusedSimpArgs false in
set_option maxRecDepth 100000 in
set_option maxHeartbeats 8000000 in
theorem rdObj_any (f : Nat) (hV : ∀ f', f' < f → ValOk f') (w : World) (g : Nat) (L : Sl) (ts : List Tk) (en : Int) (s : Ps) (h : Rd w g L ts en s) (hi1 : s.i ≤ ts.length) (hop : s.op + 1 ≤ s.i) (hf : 2 * (ts.length - s.i) + 2 ≤ f) : Calls Tryz.prog 75 #[.pointer (some ⟨g, 0, none⟩)] w fun e w' => VlP g L ts en w (objB ts (prsF ts en f) s) e w' := by
  have hfit := h.fit
  have hg0 := h.row.lt
  obtain ⟨R, hR⟩ : ∃ q, objB ts (prsF ts en f) s = q := ⟨_, rfl⟩
  rw [hR]
  unfold objB at hR
  obtain ⟨n0, hn0⟩ : ∃ q, w.heap.size = q := ⟨_, rfl⟩
  rw [hn0] at hg0
  go_enter Tryz.func75, Tryz.ntmps75
  go_upto_region 2 with fail
  have b1 := below_alloc w (.cells (rnA rnZ) 55)
  have b2 := below_alloc (w.alloc (.cells (rnA rnZ) 55)) (.cells #[.int .i64 6, .int .i64 0, .string ⟨#[]⟩, .slice none 0 0, .slice none 0 0] 55)
  have h2 := (RowC.new w (rnA rnZ) 55).kept b2
  have h3 : RowC _ _ (rnA ⟨6, 0, ⟨#[]⟩, slZ, slZ⟩) := RowC.new (w.alloc (.cells (rnA rnZ) 55)) #[.int .i64 6, .int .i64 0, .string ⟨#[]⟩, .slice none 0 0, .slice none 0 0] 55
  have hsz : ((w.alloc (.cells (rnA rnZ) 55)).alloc (.cells #[.int .i64 6, .int .i64 0, .string ⟨#[]⟩, .slice none 0 0, .slice none 0 0] 55)).heap.size = n0 + 2 := by rw [alloc_sz, alloc_sz, hn0]
  have hbY := b1.trans (b2.mono b1.size)
  have hRY := h.stay hbY
  have hsz1 : (w.alloc (.cells (rnA rnZ) 55)).heap.size = n0 + 1 := by rw [alloc_sz, hn0]
  rw [hsz1] at h3
  rw [hn0] at h2
  clear b1 b2 hsz1
  generalize (w.alloc (.cells (rnA rnZ) 55)).alloc (.cells #[.int .i64 6, .int .i64 0, .string ⟨#[]⟩, .slice none 0 0, .slice none 0 0] 55) = Y at h2 h3 hsz hbY hRY ⊢
  have hKY : Kj g n0 w Y := Kj.below hbY
  obtain ⟨g2, hg2e⟩ : ∃ q, n0 = q := ⟨_, rfl⟩
  obtain ⟨g3, hg3e⟩ : ∃ q, n0 + 1 = q := ⟨_, rfl⟩
  obtain ⟨B, hBe⟩ : ∃ q, n0 + 2 = q := ⟨_, rfl⟩
  rw [hg3e] at h3 ⊢
  rw [hg2e]
  rw [hBe] at hsz
  have h2' : RowC Y g2 (rnA rnZ) := by rw [← hg2e]; exact h2
  have hng : g3 ≠ g := by omega
  have hg2 : g2 ≠ g := by omega
  have hgB : g < B := by omega
  have hnB : g3 < B := by omega
  have hgB2 : g2 < B := by omega
  have hO := rdOpen_any Y g L ts en s hRY (by omega) hi1 (by omega)
  go_wp2_with fail
  refine hO.mono ?_
  rintro e w1 ⟨rfl, hR1, hG1⟩
  clear hO hRY
  have h31 := h3.block (hG1.block g3 h3.lt (fun e => by cases e; omega))
  have h21 := h2'.block (hG1.block g2 h2'.lt (fun e => by cases e; omega))
  have hK1 := hKY.trans (Kj.grown hG1)
  have hs1 := hG1.size
  clear h2 h2' h3 hKY hG1
  have hI := rdIs_any w1 g L ts en (opnP ts s) 2 hR1
  go_wp2_with fail
  refine hI.mono ?_
  rintro e w2 ⟨rfl, hR2, hG2⟩
  clear hI hR1
  have h32 := h31.block (hG2.block g3 h31.lt (fun e => by cases e; omega))
  have h22 := h21.block (hG2.block g2 h21.lt (fun e => by cases e; omega))
  have hK2 := hK1.trans (Kj.grown hG2)
  have hs2 := hG2.size
  clear h31 h21 hK1 hG2
  unfold stpP at hR2
  cases h4 : isP ts 2 (opnP ts s) with
  | true =>
    rw [h4] at hR hR2
    simp only [cond_true] at hR hR2
    have HOP : Hid (1 ≤ (advP (opnP ts s)).op ∧ (advP (opnP ts s)).op ≤ 1099511627777) := by show _ ∧ _; simp; omega
    have HE9 : Hid (R = (Nd.mk 6 0 [] [] [], clsP (advP (opnP ts s)))) := hR.symm
    obtain ⟨t9, ht9⟩ : ∃ q, advP (opnP ts s) = q := ⟨_, rfl⟩
    rw [ht9] at HE9 hR2 HOP
    have hN9 : NdF w2 (B ≤ ·) ⟨6, 0, ⟨#[]⟩, slZ, slZ⟩ (.mk 6 0 [] [] []) := NdF.plain w2 _ 6 0 ⟨#[]⟩
    obtain ⟨r9, hr9⟩ : ∃ q : Rn, ⟨6, 0, ⟨#[]⟩, slZ, slZ⟩ = q := ⟨_, rfl⟩
    obtain ⟨d9, hd9⟩ : ∃ q, Nd.mk 6 0 [] [] [] = q := ⟨_, rfl⟩
    rw [hr9] at hN9 h32
    rw [hd9] at hN9 HE9
    have hR9 := hR2
    have h39 := h32
    have h29 := h22
    have hK9 := hK2
    clear hR2 h32 h22 hK2 hr9 hd9 ht9 hR h4 hV h
    generalize w2 = w9 at *
    have hcf := hR9.cells.2.2.2.2.2
    have hzf := hR9.row.frozen 5
    have hw9 : IntKind.i64.wrap ((t9.op : Int) - 1) = ((t9.op - 1 : Nat) : Int) := by
      have h99 : 1 ≤ t9.op ∧ t9.op ≤ 1099511627777 := HOP.out
      rw [IntKind.wrap_i64]; omega
    have h91 := RdP.set hR9 5 (.int .i64 ((t9.op - 1 : Nat) : Int)) (rdA_op L en t9 (t9.op - 1))
    have hc31 : RowC (w9.setCell ⟨g, 5, none⟩ (.int .i64 ((t9.op - 1 : Nat) : Int))) g3 (rnA r9) := h39.set_ne 5 _ hng.symm
    have hc21 : RowC (w9.setCell ⟨g, 5, none⟩ (.int .i64 ((t9.op - 1 : Nat) : Int))) g2 (rnA rnZ) := h29.set_ne 5 _ hg2.symm
    have HG9 : Hid (w9.grownBy (w9.setCell ⟨g, 5, none⟩ (.int .i64 ((t9.op - 1 : Nat) : Int))) (some g)) := h91.2
    have HN9 : Hid (NdF (w9.setCell ⟨g, 5, none⟩ (.int .i64 ((t9.op - 1 : Nat) : Int))) (B ≤ ·) r9 d9) := hN9.ag h91.2.size (fun b hb hl => h91.2.block b hl (fun e => by cases e; omega))
    have HR9 : Hid (Rd (w9.setCell ⟨g, 5, none⟩ (.int .i64 ((t9.op - 1 : Nat) : Int))) g L ts en (clsP t9)) := h91.1
    have HK9 : Hid (Kj g n0 w w9) := hK9
    clear h91 hN9 hR9 h39 h29 hK9
    go_upto_region 9 with fail
    generalize w9.setCell ⟨g, 5, none⟩ (.int .i64 ((t9.op - 1 : Nat) : Int)) = w8 at hc31 hc21 HG9 HN9 HR9 ⊢
    obtain ⟨a1, a2⟩ := id hc31
    obtain ⟨b1, b2⟩ := id hc21
    have a3 : (rowAt w8 g3).size = 5 := by rw [a2]; rfl
    have b3 : (rowAt w8 g2).size = 5 := by rw [b2]; rfl
    go_wp2
    exact nd_bodyPost1 2 g2 (rnA r9) rfl rfl rfl (RowC.setRow hc21 _) rfl (by rw [HE9.out]; exact lst_end HK9.out hn0 HG9.out HR9.out (by omega) HN9.out hgB2 hg0)
  | false =>
    rw [h4] at hR hR2
    simp only [cond_false] at hR hR2
    clear h4
    obtain ⟨f1, rfl⟩ : ∃ q, f = q + 1 := ⟨f - 1, by omega⟩
    rw [prsF] at hR
    have hO2 : ObO w2 g3 B slZ slZ [] [] [] [] := ⟨h32, OwnG.nil _ _ _, rfl, LsO.nil _ _ _, hnB, by omega⟩
    have hfp : isP ts 11 (opnP ts s) = true → 2 * (ts.length - ((opnP ts s).i + 1)) + 1 ≤ f1 := fun _ => by simp; omega
    have hP := rdPair_any f1 (hV f1 (by omega)) w2 g g3 B L slZ slZ ts en (opnP ts s) [] [] [] [] hR2 hO2 (by omega) (by simp; omega) hfp (Nat.zero_le _) (Nat.zero_le _)
    obtain ⟨⟨le1, le2, le3⟩, le4, le5⟩ := pairP_ok ts en f1 [] [] (opnP ts s) (by simp; omega) (by simp; omega) hfp
    simp at le1 le3 le4 le5
    obtain ⟨p, hp⟩ : ∃ q, pairP ts en (prsF ts en f1 none) [] [] (opnP ts s) = q := ⟨_, rfl⟩
    rw [hp] at hP hR le1 le2 le3 le4 le5
    clear hp
    go_wp2_with fail
    refine hP.mono ?_
    rintro e w3 ⟨rfl, ks, vs, kb, rs, hR3, hO3, hK3⟩
    clear hP
    have h23 := hK3.row h22 (by omega) hg2
    have HL : Hid (OInv (f1 + 1) n0 g g2 g3 B L ts en w R w3) := ⟨p.2.2, p.1, p.2.1, ks, vs, kb, rs, f1, hR3, hO3, h23, hK2.trans (hK3.less (by omega)), le2, by rw [le3]; omega, by omega, by omega, by omega, by omega, by omega, hR⟩
    clear hR3 hO3 hK3 h23 hR hR2 h22 hK2 h32 hO2 hfp
    go_wp2_with fail
    go_loopw [12] (fun _ wr => OInv (f1 + 1) n0 g g2 g3 B L ts en w R wr) (fun _ wr => ts.length - rdI wr g)
    case atStart => exact HL.out
    case round =>
      clear HL
      obtain ⟨t, keys, vals, ks, vs, kb, rs, f', hRt, hOt, h2t, hKt, m1, m2, m3, m4, m8, m5, m6, m7⟩ := hrel
      have hI := rdIs_any wr g L ts en t 6 hRt
      have hri := hRt.rdI
      go_wp2_with fail
      refine hI.mono ?_
      rintro e w3 ⟨rfl, hR3, hG3⟩
      clear hI hRt
      have hO3 := hOt.grown hG3 (by omega)
      have h23 := h2t.block (hG3.block g2 h2t.lt (fun e => by cases e; omega))
      have hK3 := hKt.trans (Kj.grown hG3)
      clear hOt h2t hKt hG3
      unfold stpP at hR3
      unfold objE at m7
      simp only at m7
      cases h6 : isP ts 6 t with
      | true =>
        have hi6 := (isP_spec h6).2.1
        rw [h6] at hR3 m7
        simp only [cond_true] at hR3 m7
        clear h6
        obtain ⟨f2, rfl⟩ : ∃ q, f' = q + 1 := ⟨f' - 1, by omega⟩
        rw [prsF] at m7
        have hfp : isP ts 11 (advP t) = true → 2 * (ts.length - ((advP t).i + 1)) + 1 ≤ f2 := fun _ => by simp; omega
        have hP := rdPair_any f2 (hV f2 (by omega)) w3 g g3 B L ks vs ts en (advP t) kb rs keys vals hR3 hO3 (by omega) (by simp; omega) hfp (by omega) (by omega)
        obtain ⟨⟨le1, le2, le3⟩, le4, le5⟩ := pairP_ok ts en f2 keys vals (advP t) (by simp; omega) (by simp; omega) hfp
        simp at le1 le3
        obtain ⟨p, hp⟩ : ∃ q, pairP ts en (prsF ts en f2 none) keys vals (advP t) = q := ⟨_, rfl⟩
        rw [hp] at hP m7 le1 le2 le3 le4 le5
        clear hp
        go_wp2_with fail
        refine hP.mono ?_
        rintro e w4 ⟨rfl, ks4, vs4, kb4, rs4, hR4, hO4, hK4⟩
        clear hP
        have h24 := hK4.row h23 (by omega) hg2
        have HM : Hid (rdI w4 g = p.2.2.i) := hR4.rdI
        have HL : Hid (OInv (f1 + 1) n0 g g2 g3 B L ts en w R w4) := ⟨p.2.2, p.1, p.2.1, ks4, vs4, kb4, rs4, f2, hR4, hO4, h24, hK3.trans (hK4.less (by omega)), le2, by rw [le3]; omega, by omega, by omega, by omega, by omega, by omega, m7⟩
        clear hR4 hO4 hK4 h24 m7 hR3 h23 hK3 hO3 hfp
        go_wp2
        go_roundw
        case rel => first | exact HL.out | exact ⟨_, _, _, _, HL.out, rfl⟩
        case measure => rw [HM.out, hri]; omega
      | false =>
        rw [h6] at hR3 m7
        simp only [cond_false] at hR3 m7
        clear h6
        have hNd := rdNeed_any w3 g L ts en t 2 hR3
        go_wp2_with fail
        refine hNd.mono ?_
        rintro e w9 ⟨rfl, hR9, hG9⟩
        clear hNd
        have hO9 := hO3.grown hG9 (by omega)
        have h39 : RowC w9 g3 (rnA (obN ks vs)) := hO9.row
        have h29 := h23.block (hG9.block g2 h23.lt (fun e => by cases e; omega))
        have hK9 := hK3.trans (Kj.grown hG9)
        have hzz : ks.n ≤ 17592186044416 ∧ vs.n ≤ 17592186044416 := by
          have h8 := IsG.num hO9.kown.isG
          have h7 : keys.length = kb.length := by rw [← hO9.kk]; simp
          have h6 := IsK.num (hO9.lst.own.isK ndE_ok)
          have h5 := hO9.lst.len
          simp [strs] at h8
          omega
        have hN9 := hO9.lst.node 6 0 ⟨#[]⟩ ks vs kb hO9.kown.isG (Sl.own_inG hO9.kown) hzz
        rw [hO9.kk] at hN9
        have HE9 : Hid (R = (Nd.mk 6 0 (lS ⟨#[]⟩) keys vals, clsP (needP ts en 2 t))) := m7.symm
        have HOP : Hid (1 ≤ (needP ts en 2 t).op ∧ (needP ts en 2 t).op ≤ 1099511627777) := by show _ ∧ _; simp; omega
        obtain ⟨t9, ht9⟩ : ∃ q, needP ts en 2 t = q := ⟨_, rfl⟩
        rw [ht9] at HE9 hR9 HOP
        obtain ⟨r9, hr9⟩ : ∃ q, obN ks vs = q := ⟨_, rfl⟩
        obtain ⟨d9, hd9⟩ : ∃ q, Nd.mk 6 0 (lS ⟨#[]⟩) keys vals = q := ⟨_, rfl⟩
        have hN99 : NdF w9 (B ≤ ·) (obN ks vs) (Nd.mk 6 0 (lS ⟨#[]⟩) keys vals) := hN9
        clear hN9
        rw [hr9] at hN99 h39
        rw [hd9] at hN99 HE9
        have hN9 := hN99
        clear hzz hN99 hR3 h23 hK3 hr9 hd9 ht9 m7 hV h hO9 hO3 hG9
        have hcf := hR9.cells.2.2.2.2.2
        have hzf := hR9.row.frozen 5
        have hw9 : IntKind.i64.wrap ((t9.op : Int) - 1) = ((t9.op - 1 : Nat) : Int) := by
          have h99 : 1 ≤ t9.op ∧ t9.op ≤ 1099511627777 := HOP.out
          rw [IntKind.wrap_i64]; omega
        have h91 := RdP.set hR9 5 (.int .i64 ((t9.op - 1 : Nat) : Int)) (rdA_op L en t9 (t9.op - 1))
        have hc31 : RowC (w9.setCell ⟨g, 5, none⟩ (.int .i64 ((t9.op - 1 : Nat) : Int))) g3 (rnA r9) := h39.set_ne 5 _ hng.symm
        have hc21 : RowC (w9.setCell ⟨g, 5, none⟩ (.int .i64 ((t9.op - 1 : Nat) : Int))) g2 (rnA rnZ) := h29.set_ne 5 _ hg2.symm
        have HG9 : Hid (w9.grownBy (w9.setCell ⟨g, 5, none⟩ (.int .i64 ((t9.op - 1 : Nat) : Int))) (some g)) := h91.2
        have HN9 : Hid (NdF (w9.setCell ⟨g, 5, none⟩ (.int .i64 ((t9.op - 1 : Nat) : Int))) (B ≤ ·) r9 d9) := hN9.ag h91.2.size (fun b hb hl => h91.2.block b hl (fun e => by cases e; omega))
        have HR9 : Hid (Rd (w9.setCell ⟨g, 5, none⟩ (.int .i64 ((t9.op - 1 : Nat) : Int))) g L ts en (clsP t9)) := h91.1
        have HK9 : Hid (Kj g n0 w w9) := hK9
        clear h91 hN9 hR9 h39 h29 hK9
        go_upto_region 9 with fail
        generalize w9.setCell ⟨g, 5, none⟩ (.int .i64 ((t9.op - 1 : Nat) : Int)) = w8 at hc31 hc21 HG9 HN9 HR9 ⊢
        obtain ⟨a1, a2⟩ := id hc31
        obtain ⟨b1, b2⟩ := id hc21
        have a3 : (rowAt w8 g3).size = 5 := by rw [a2]; rfl
        have b3 : (rowAt w8 g2).size = 5 := by rw [b2]; rfl
        go_wp2
        exact nd_bodyPost1 2 g2 (rnA r9) rfl rfl rfl (RowC.setRow hc21 _) rfl (by rw [HE9.out]; exact lst_end HK9.out hn0 HG9.out HR9.out (by omega) HN9.out hgB2 hg0)
end Go.Proofs.YtalnbddkhojjbaaGreatDoor
namespace Go.Proofs.YtalnbddkhojjbaaGreatDoor
open Go.RowKit

theorem val_end {g n0 g2 : Nat} {L : Sl} {ts : List Tk} {en : Int} {t : Ps} {w x : World} {r : Rn} {d : Nd} (hK : Kj g n0 w x) (hn : w.heap.size = n0) (hR : Rd x g L ts en t) (h2n : n0 ≤ g2) (hN : NdF x (g2 + 1 ≤ ·) r d) (hgn : g < n0) : VlP g L ts en w (d, t) (.returned (.agg (rnA r))) (x.setRow g2 (rnA r)) :=
  lst_end hK hn (grown_below _ (Below.refl _ _)) hR h2n hN (Nat.lt_succ_self _) hgn
set_option linter.unusedSimpArgs false in
set_option maxRecDepth 100000 in
set_option maxHeartbeats 16000000 in
theorem rdValue_step (f : Nat) (hV : ∀ f', f' < f → ValOk f') : ValOk (f + 1) := fun w g L ts en s h hok hf => by
  have hfit := h.fit
  have hg0 := h.row.lt
  obtain ⟨hi1, hop, -⟩ := hok
  obtain ⟨R, hR⟩ : ∃ q, prsF ts en (f + 1) none s = q := ⟨_, rfl⟩
  rw [hR]
  rw [prsF] at hR
  obtain ⟨n0, hn0⟩ : ∃ q, w.heap.size = q := ⟨_, rfl⟩
  rw [hn0] at hg0
  have hba := below_alloc w (.cells (rnA rnZ) 55)
  have h2 := RowC.new w (rnA rnZ) 55
  have hRY := h.stay hba
  have hKY : Kj g n0 w (w.alloc (.cells (rnA rnZ) 55)) := Kj.below hba
  have hsz : (w.alloc (.cells (rnA rnZ) 55)).heap.size = n0 + 1 := by rw [alloc_sz, hn0]
  rw [hn0] at h2
  have c3 := hRY.cells.2.2.2.1
  clear h hba
  go_enter Tryz.func45, Tryz.ntmps45
  go_upto_region 1 with fail
  generalize w.alloc (.cells (rnA rnZ) 55) = Y at h2 hRY hKY hsz c3 ⊢
  by_cases h0 : s.e = 0
  · rw [if_neg (fun e => e h0)] at hR
    rw [h0] at c3
    have hR0 := hRY
    have h20 := h2
    have hK0 := hKY
    clear hRY h2 hKY
    obtain ⟨w0, hw0⟩ : ∃ q, Y = q := ⟨_, rfl⟩
    rw [hw0] at hR0 h20 hK0 c3 hsz ⊢
    clear hw0 h0
    have hI1 := rdIs_any w0 g L ts en s 7 hR0
    go_wp2_with fail
    refine hI1.mono ?_
    rintro e w1 ⟨rfl, hR1, hG1⟩
    clear hI1 hR0
    have h21 := h20.block (hG1.block n0 h20.lt (fun e => by cases e; omega))
    have hK1 := hK0.trans (Kj.grown hG1)
    have hs1 := hG1.size
    clear hG1 h20 hK0
    unfold stpP at hR1
    cases hk1 : isP ts 7 s with
    | true =>
      have hi := (isP_spec hk1).2.1
      rw [hk1] at hR1 hR
      simp only [cond_true] at hR1 hR
      clear hk1
      obtain ⟨b1, b2⟩ := id h21
      have b3 : (rowAt w1 n0).size = 5 := by rw [b2]; rfl
      go_wp2
      exact nd_bodyPost1 2 n0 (rnA ⟨1, 0, ⟨#[]⟩, slZ, slZ⟩) rfl rfl rfl (RowC.setRow h21 _) rfl (by rw [← hR]; exact val_end hK1 hn0 hR1 (Nat.le_refl _) (NdF.plain w1 _ 1 0 ⟨#[]⟩) hg0)
    | false =>
      rw [hk1] at hR1 hR
      simp only [cond_false] at hR1 hR
      clear hk1
      have hI2 := rdIs_any w1 g L ts en s 8 hR1
      go_wp2_with fail
      refine hI2.mono ?_
      rintro e w2 ⟨rfl, hR2, hG2⟩
      clear hI2 hR1
      have h22 := h21.block (hG2.block n0 h21.lt (fun e => by cases e; omega))
      have hK2 := hK1.trans (Kj.grown hG2)
      have hs2 := hG2.size
      clear hG2 h21 hK1
      unfold stpP at hR2
      cases hk2 : isP ts 8 s with
      | true =>
        have hi := (isP_spec hk2).2.1
        rw [hk2] at hR2 hR
        simp only [cond_true] at hR2 hR
        clear hk2
        obtain ⟨b1, b2⟩ := id h22
        have b3 : (rowAt w2 n0).size = 5 := by rw [b2]; rfl
        go_wp2
        exact nd_bodyPost1 2 n0 (rnA ⟨2, 1, ⟨#[]⟩, slZ, slZ⟩) rfl rfl rfl (RowC.setRow h22 _) rfl (by rw [← hR]; exact val_end hK2 hn0 hR2 (Nat.le_refl _) (NdF.plain w2 _ 2 1 ⟨#[]⟩) hg0)
      | false =>
        rw [hk2] at hR2 hR
        simp only [cond_false] at hR2 hR
        clear hk2
        have hI3 := rdIs_any w2 g L ts en s 9 hR2
        go_wp2_with fail
        refine hI3.mono ?_
        rintro e w3 ⟨rfl, hR3, hG3⟩
        clear hI3 hR2
        have h23 := h22.block (hG3.block n0 h22.lt (fun e => by cases e; omega))
        have hK3 := hK2.trans (Kj.grown hG3)
        have hs3 := hG3.size
        clear hG3 h22 hK2
        unfold stpP at hR3
        cases hk3 : isP ts 9 s with
        | true =>
          have hi := (isP_spec hk3).2.1
          rw [hk3] at hR3 hR
          simp only [cond_true] at hR3 hR
          clear hk3
          obtain ⟨b1, b2⟩ := id h23
          have b3 : (rowAt w3 n0).size = 5 := by rw [b2]; rfl
          go_wp2
          exact nd_bodyPost1 2 n0 (rnA ⟨2, 0, ⟨#[]⟩, slZ, slZ⟩) rfl rfl rfl (RowC.setRow h23 _) rfl (by rw [← hR]; exact val_end hK3 hn0 hR3 (Nat.le_refl _) (NdF.plain w3 _ 2 0 ⟨#[]⟩) hg0)
        | false =>
          rw [hk3] at hR3 hR
          simp only [cond_false] at hR3 hR
          clear hk3
          have hI4 := rdIs_any w3 g L ts en s 10 hR3
          go_wp2_with fail
          refine hI4.mono ?_
          rintro e w4 ⟨rfl, hR4, hG4⟩
          clear hI4 hR3
          have h24 := h23.block (hG4.block n0 h23.lt (fun e => by cases e; omega))
          have hK4 := hK3.trans (Kj.grown hG4)
          have hs4 := hG4.size
          clear hG4 h23 hK3
          unfold stpP at hR4
          cases hk4 : isP ts 10 s with
          | true =>
            have hi := (isP_spec hk4).2.1
            rw [hk4] at hR4 hR
            simp only [cond_true] at hR4 hR
            clear hk4
            obtain ⟨b, hLx, -, t1, t2, t3⟩ := hR4.tok s.i hi
            obtain ⟨q0, -, q2, -⟩ := hR4.cells
            have hLn := hR4.len
            have hLv : L.v = .slice (some ⟨b, 0, none⟩) ts.length L.c := by unfold Sl.v; rw [hLx, hLn]
            rw [hLv] at q0
            replace q2 : w4.cell? ⟨g, 2, none⟩ = some (.int .i64 ((s.i + 1 : Nat) : Int)) := q2
            obtain ⟨i, hi9⟩ : ∃ q, s.i = q := ⟨_, rfl⟩
            obtain ⟨cL, hcL⟩ : ∃ q, L.c = q := ⟨_, rfl⟩
            rw [hi9] at q2 t2 t3
            rw [hcL] at q0
            have i3 : IntKind.i64.wrap (((i + 1 : Nat) : Int) - 1) = (i : Int) := by rw [IntKind.wrap_i64]; omega
            have i4 : IntKind.i64.wrap (i : Int) = (i : Int) := by rw [IntKind.wrap_i64]; omega
            have i1 : (i : Int) < (ts.length : Int) := by omega
            have i0 : (0 : Int) ≤ (i : Int) := by omega
            have HR : Hid _ := hR
            have HRJ : Hid (Rd w4 g L ts en (advP s)) := hR4
            have HKJ : Hid (Kj g n0 w w4) := hK4
            have H2J : Hid (RowC w4 n0 (rnA rnZ)) := h24
            clear hLv hLx hLn hR hR4 hK4 h24
            go_upto_region 10 with fail
            refine wp_reliesT [Fx (.pointer (some ⟨g, 0, none⟩)), Fx (.pointer (some ⟨g, 0, none⟩)), Fx (.pointer (some ⟨g, 0, none⟩)), Fx (.slice (some ⟨b, 0, none⟩) ts.length cL), Fx (.pointer (some ⟨g, 0, none⟩)), Fx (.pointer (some ⟨g, 0, none⟩)), Fx (.pointer (some ⟨g, 2, none⟩)), Fx (.int .i64 ((i + 1 : Nat) : Int)), Fx (.int .i64 (i : Int)), Fx (.pointer (some ⟨b, i * 4, none⟩)), Fx (.pointer (some ⟨b, i * 4 + 2, none⟩)), Fx (.int .i64 (tkP ts i).n), Fx (.agg #[.int .i64 3, .int .i64 (tkP ts i).n, .string ⟨#[]⟩, .slice none 0 0, .slice none 0 0])] (by kernel_rfl) (by kernel_rfl) ?_ ?_ ?_
            · repeat' (first | exact all_nil | apply all_cons)
              all_goals intro v y y' hv hb
              all_goals first | exact Fx_mono _ _ _ _ hv hb
            · refine ⟨?_, ?_, ?_, ?_, ?_, ?_, ?_, ?_, ?_, ?_, ?_, ?_, ?_, trivial⟩
              all_goals
                intro ρ y9 hp ρc ρg ρf ho hd
                have o0 : ρ (.tmp 0) = .pointer (some ⟨g, 0, none⟩) := ho 0 rfl
                clear ho
                replace q0 := cell_later hp q0
                replace q2 := cell_later hp q2
                replace t2 := cell_later hp t2
                simp only [depsR, depR, slotR, Fx, List.getElem?_cons_succ, List.getElem?_cons_zero, Region.binds, forall_const] at hd
                simp only [guardR]
                go_split_ands
              · go_simp
              · go_simp
              · go_simp
              · go_simp
              · go_simp
              · go_simp
              · go_simp
              · go_simp
              · go_simp
              · go_simp
              · go_simp
              · go_simp
              · go_simp
            · intro us x1 hp1 hw
              simp only [owed, Fx] at hw
              obtain ⟨e0, e1, e2, e3, e4, e5, e6, e7, e8, e9, e10, e11, e12, -⟩ := hw
              simp only [List.length_cons, List.length_nil, List.take_succ_cons, List.take_zero, List.drop_succ_cons, List.drop_zero, asg, List.cons_append, List.nil_append, e0, e1, e2, e3, e4, e5, e6, e7, e8, e9, e10, e11, e12]
              clear e0 e1 e2 e3 e4 e5 e6 e7 e8 e9 e10 e11 e12
              have h2x : RowC x1 n0 (rnA rnZ) := RowC.kept H2J.out hp1
              obtain ⟨b1, b2⟩ := id h2x
              have b3 : (rowAt x1 n0).size = 5 := by rw [b2]; rfl
              go_wp2
              refine nd_bodyPost1 2 n0 (rnA ⟨3, (tkP ts i).n, ⟨#[]⟩, slZ, slZ⟩) rfl rfl rfl (RowC.setRow h2x _) rfl (by
                rw [← HR.out, hi9]
                exact val_end (Kj.trans HKJ.out (Kj.below hp1)) hn0 (Rd.stay HRJ.out hp1) (Nat.le_refl _) (NdF.plain x1 _ 3 (tkP ts i).n ⟨#[]⟩) hg0)
          | false =>
            rw [hk4] at hR4 hR
            simp only [cond_false] at hR4 hR
            clear hk4
            have hI5 := rdIs_any w4 g L ts en s 11 hR4
            go_wp2_with fail
            refine hI5.mono ?_
            rintro e w5 ⟨rfl, hR5, hG5⟩
            clear hI5 hR4
            have h25 := h24.block (hG5.block n0 h24.lt (fun e => by cases e; omega))
            have hK5 := hK4.trans (Kj.grown hG5)
            have hs5 := hG5.size
            clear hG5 h24 hK4
            unfold stpP at hR5
            cases hk5 : isP ts 11 s with
            | true =>
              have hi := (isP_spec hk5).2.1
              rw [hk5] at hR5 hR
              simp only [cond_true] at hR5 hR
              clear hk5
              obtain ⟨b, hLx, -, t1, t2, t3⟩ := hR5.tok s.i hi
              obtain ⟨q0, -, q2, -⟩ := hR5.cells
              have hLn := hR5.len
              have hLv : L.v = .slice (some ⟨b, 0, none⟩) ts.length L.c := by unfold Sl.v; rw [hLx, hLn]
              rw [hLv] at q0
              replace q2 : w5.cell? ⟨g, 2, none⟩ = some (.int .i64 ((s.i + 1 : Nat) : Int)) := q2
              obtain ⟨i, hi9⟩ : ∃ q, s.i = q := ⟨_, rfl⟩
              obtain ⟨cL, hcL⟩ : ∃ q, L.c = q := ⟨_, rfl⟩
              rw [hi9] at q2 t2 t3
              rw [hcL] at q0
              have i3 : IntKind.i64.wrap (((i + 1 : Nat) : Int) - 1) = (i : Int) := by rw [IntKind.wrap_i64]; omega
              have i4 : IntKind.i64.wrap (i : Int) = (i : Int) := by rw [IntKind.wrap_i64]; omega
              have i1 : (i : Int) < (ts.length : Int) := by omega
              have i0 : (0 : Int) ≤ (i : Int) := by omega
              have HR : Hid _ := hR
              have HRJ : Hid (Rd w5 g L ts en (advP s)) := hR5
              have HKJ : Hid (Kj g n0 w w5) := hK5
              have H2J : Hid (RowC w5 n0 (rnA rnZ)) := h25
              clear hLv hLx hLn hR hR5 hK5 h25
              go_upto_region 12 with fail
              refine wp_reliesT [Fx (.pointer (some ⟨g, 0, none⟩)), Fx (.pointer (some ⟨g, 0, none⟩)), Fx (.pointer (some ⟨g, 0, none⟩)), Fx (.slice (some ⟨b, 0, none⟩) ts.length cL), Fx (.pointer (some ⟨g, 0, none⟩)), Fx (.pointer (some ⟨g, 0, none⟩)), Fx (.pointer (some ⟨g, 2, none⟩)), Fx (.int .i64 ((i + 1 : Nat) : Int)), Fx (.int .i64 (i : Int)), Fx (.pointer (some ⟨b, i * 4, none⟩)), Fx (.pointer (some ⟨b, i * 4 + 3, none⟩)), Fx (.string ⟨(tkP ts i).text.toArray⟩), Fx (.agg #[.int .i64 4, .int .i64 0, .string ⟨(tkP ts i).text.toArray⟩, .slice none 0 0, .slice none 0 0])] (by kernel_rfl) (by kernel_rfl) ?_ ?_ ?_
              · repeat' (first | exact all_nil | apply all_cons)
                all_goals intro v y y' hv hb
                all_goals first | exact Fx_mono _ _ _ _ hv hb
              · refine ⟨?_, ?_, ?_, ?_, ?_, ?_, ?_, ?_, ?_, ?_, ?_, ?_, ?_, trivial⟩
                all_goals
                  intro ρ y9 hp ρc ρg ρf ho hd
                  have o0 : ρ (.tmp 0) = .pointer (some ⟨g, 0, none⟩) := ho 0 rfl
                  clear ho
                  replace q0 := cell_later hp q0
                  replace q2 := cell_later hp q2
                  replace t3 := cell_later hp t3
                  simp only [depsR, depR, slotR, Fx, List.getElem?_cons_succ, List.getElem?_cons_zero, Region.binds, forall_const] at hd
                  simp only [guardR]
                  go_split_ands
                · go_simp
                · go_simp
                · go_simp
                · go_simp
                · go_simp
                · go_simp
                · go_simp
                · go_simp
                · go_simp
                · go_simp
                · go_simp
                · go_simp
                · go_simp
              · intro us x1 hp1 hw
                simp only [owed, Fx] at hw
                obtain ⟨e0, e1, e2, e3, e4, e5, e6, e7, e8, e9, e10, e11, e12, -⟩ := hw
                simp only [List.length_cons, List.length_nil, List.take_succ_cons, List.take_zero, List.drop_succ_cons, List.drop_zero, asg, List.cons_append, List.nil_append, e0, e1, e2, e3, e4, e5, e6, e7, e8, e9, e10, e11, e12]
                clear e0 e1 e2 e3 e4 e5 e6 e7 e8 e9 e10 e11 e12
                have h2x : RowC x1 n0 (rnA rnZ) := RowC.kept H2J.out hp1
                obtain ⟨b1, b2⟩ := id h2x
                have b3 : (rowAt x1 n0).size = 5 := by rw [b2]; rfl
                go_wp2
                refine nd_bodyPost1 2 n0 (rnA ⟨4, 0, ⟨(tkP ts i).text.toArray⟩, slZ, slZ⟩) rfl rfl rfl (RowC.setRow h2x _) rfl (by
                  rw [← HR.out, hi9]
                  exact val_end (Kj.trans HKJ.out (Kj.below hp1)) hn0 (Rd.stay HRJ.out hp1) (Nat.le_refl _) (by have h9 := NdF.plain x1 (n0 + 1 ≤ ·) 4 0 ⟨(tkP ts i).text.toArray⟩; rw [lS_mk] at h9; exact h9) hg0)
            | false =>
              rw [hk5] at hR5 hR
              simp only [cond_false] at hR5 hR
              clear hk5
              have hI6 := rdIs_any w5 g L ts en s 3 hR5
              go_wp2_with fail
              refine hI6.mono ?_
              rintro e w6 ⟨rfl, hR6, hG6⟩
              clear hI6 hR5
              have h26 := h25.block (hG6.block n0 h25.lt (fun e => by cases e; omega))
              have hK6 := hK5.trans (Kj.grown hG6)
              have hs6 := hG6.size
              clear hG6 h25 hK5
              unfold stpP at hR6
              cases hk6 : isP ts 3 s with
              | true =>
                have hi := (isP_spec hk6).2.1
                rw [hk6] at hR6 hR
                simp only [cond_true] at hR6 hR
                clear hk6
                have hC := rdList_any f hV w6 g L ts en (advP s) hR6 (by simp; omega) (by simp; omega) (by simp; omega)
                rw [hR] at hC
                go_wp2_with fail
                refine hC.mono ?_
                rintro e w9 ⟨r9, rfl, hN9, hR9, hG9⟩
                clear hC
                have h29 := h26.block (hG9.block n0 h26.lt (fun e => by cases e; omega))
                obtain ⟨b1, b2⟩ := id h29
                have b3 : (rowAt w9 n0).size = 5 := by rw [b2]; rfl
                have HP : Hid (VlP g L ts en w R (.returned (.agg (rnA r9))) (w9.setRow n0 (rnA r9))) := val_end (d := R.1) (t := R.2) (hK6.trans (Kj.grown hG9)) hn0 hR9 (Nat.le_refl _) (hN9.mono fun b hb => by omega) hg0
                clear hN9 hR9 hG9
                go_wp2
                exact nd_bodyPost1 2 n0 (rnA r9) rfl rfl rfl (RowC.setRow h29 _) rfl HP.out
              | false =>
                rw [hk6] at hR6 hR
                simp only [cond_false] at hR6 hR
                clear hk6
                have hI7 := rdIs_any w6 g L ts en s 1 hR6
                go_wp2_with fail
                refine hI7.mono ?_
                rintro e w7 ⟨rfl, hR7, hG7⟩
                clear hI7 hR6
                have h27 := h26.block (hG7.block n0 h26.lt (fun e => by cases e; omega))
                have hK7 := hK6.trans (Kj.grown hG7)
                have hs7 := hG7.size
                clear hG7 h26 hK6
                unfold stpP at hR7
                cases hk7 : isP ts 1 s with
                | true =>
                  have hi := (isP_spec hk7).2.1
                  rw [hk7] at hR7 hR
                  simp only [cond_true] at hR7 hR
                  clear hk7
                  have hC := rdObj_any f hV w7 g L ts en (advP s) hR7 (by simp; omega) (by simp; omega) (by simp; omega)
                  rw [hR] at hC
                  go_wp2_with fail
                  refine hC.mono ?_
                  rintro e w9 ⟨r9, rfl, hN9, hR9, hG9⟩
                  clear hC
                  have h29 := h27.block (hG9.block n0 h27.lt (fun e => by cases e; omega))
                  obtain ⟨b1, b2⟩ := id h29
                  have b3 : (rowAt w9 n0).size = 5 := by rw [b2]; rfl
                  have HP : Hid (VlP g L ts en w R (.returned (.agg (rnA r9))) (w9.setRow n0 (rnA r9))) := val_end (d := R.1) (t := R.2) (hK7.trans (Kj.grown hG9)) hn0 hR9 (Nat.le_refl _) (hN9.mono fun b hb => by omega) hg0
                  clear hN9 hR9 hG9
                  go_wp2
                  exact nd_bodyPost1 2 n0 (rnA r9) rfl rfl rfl (RowC.setRow h29 _) rfl HP.out
                | false =>
                  rw [hk7] at hR7 hR
                  simp only [cond_false] at hR7 hR
                  clear hk7
                  have hA := rdAt_any w7 g L ts en s hR7
                  go_wp2_with fail
                  refine hA.mono ?_
                  rintro e w8 ⟨rfl, hb8⟩
                  clear hA
                  have hF := rdFail_any w8 g L ts en s 31 (atP ts en s) (hR7.stay hb8)
                  go_wp2_with fail
                  refine hF.mono ?_
                  rintro e w9 ⟨rfl, hR9, hG9⟩
                  clear hF
                  have h28 := h27.kept hb8
                  have h29 := h28.block (hG9.block n0 h28.lt (fun e => by cases e; omega))
                  have hK9 := (hK7.trans (Kj.below hb8)).trans (Kj.grown hG9)
                  obtain ⟨b1, b2⟩ := id h29
                  have b3 : (rowAt w9 n0).size = 5 := by rw [b2]; rfl
                  go_wp2
                  exact nd_bodyPost1 2 n0 (rnA ⟨0, 0, ⟨#[]⟩, slZ, slZ⟩) rfl rfl rfl (RowC.setRow h29 _) rfl (by rw [← hR]; exact val_end hK9 hn0 hR9 (Nat.le_refl _) (NdF.plain w9 _ 0 0 ⟨#[]⟩) hg0)
  · have f0 : (s.e != 0) = true := bne_iff_ne.2 h0
    rw [if_pos h0] at hR
    obtain ⟨b1, b2⟩ := id h2
    have b3 : (rowAt Y n0).size = 5 := by rw [b2]; rfl
    go_wp2
    exact nd_bodyPost1 2 n0 (rnA ⟨0, 0, ⟨#[]⟩, slZ, slZ⟩) rfl rfl rfl (RowC.setRow h2 _) rfl (by rw [← hR]; exact val_end hKY hn0 hRY (Nat.le_refl _) (NdF.plain Y _ 0 0 ⟨#[]⟩) hg0)
theorem rdValue_any : ∀ f, ValOk f := by
  intro f
  induction f using Nat.strongRecOn with
  | _ f ih =>
    cases f with
    | zero => intro w g L ts en s _ _ hf; omega
    | succ f => exact rdValue_step f fun f' hf' => ih f' (by omega)
end Go.Proofs.YtalnbddkhojjbaaGreatDoor
namespace Go.Proofs.YtalnbddkhojjbaaGreatDoor
open Go.RowKit

def PsP (q : Nd × Int × Int) (w : World) (e : Ending) (w' : World) : Prop := ∃ r, e = .returned (.tuple #[.agg (rnA r), .int .i64 q.2.1, .int .i64 q.2.2]) ∧ NdF w' (w.heap.size ≤ ·) r q.1 ∧ Below w.heap.size w w'
theorem psp_end {n0 g2 : Nat} {w x : World} {r : Rn} {q : Nd × Int × Int} (hb : Below n0 w x) (hn : w.heap.size = n0) (h2n : n0 ≤ g2) (hN : NdF x (g2 + 1 ≤ ·) r q.1) : PsP q w (.returned (.tuple #[.agg (rnA r), .int .i64 q.2.1, .int .i64 q.2.2])) (x.setRow g2 (rnA r)) := by
  have hs := grown_setRow x g2 (rnA r)
  refine ⟨r, rfl, (hN.ag hs.size fun b hb hl => hs.block b hl (fun e => by cases e; omega)).mono (fun b hb => by omega), ?_⟩
  rw [hn]
  exact below_row14 hb h2n _
theorem cutF_len15 (l : List UInt8) : ∀ f k out ts p, cutF l f k out = (some ts, p) → ts.length ≤ out.length + f
  | 0, k, out, ts, p, h => by simp [cutF] at h
  | f + 1, k, out, ts, p, h => by
    rw [cutF] at h
    split at h
    · split at h
      · have := cutF_len15 l f _ _ _ _ h; omega
      · split at h
        · simp at h
        · have := cutF_len15 l f _ _ _ _ h
          simp at this; omega
    · simp at h; rw [← h.1]; omega
theorem cutL_len15 (l : List UInt8) : (cutL l).length ≤ 4097 := by
  unfold cutL
  split
  · simp
  · cases h : (cutA l).1 with
    | none => simp
    | some ts =>
      have := cutF_len15 l (l.length + 1) 0 [] ts (cutA l).2 (by rw [← h]; rfl)
      simp at this ⊢; omega
theorem kokBelow : KOk (fun w w' => Below w.heap.size w w') := ⟨fun h => h, fun h k => h.trans (k.mono h.size)⟩
set_option linter.unusedSimpArgs false in
set_option maxRecDepth 100000 in
set_option maxHeartbeats 16000000 in
theorem refParse_any (l : List UInt8) (x : Option Addr) (n c : Nat) (w : World) (hL : l.length = n) (hl : IsB w (.slice x n c) l) (hL47 : n ≤ 140737488355328) : Calls Tryz.prog 22 #[.slice x n c] w fun e w' => PsP (prsA l) w e w' := by
  obtain ⟨R, hR⟩ : ∃ q, prsA l = q := ⟨_, rfl⟩
  rw [hR]
  unfold prsA at hR
  obtain ⟨n0, hn0⟩ : ∃ q, w.heap.size = q := ⟨_, rfl⟩
  have hba := below_alloc w (.cells (rnA rnZ) 55)
  have h2 := RowC.new w (rnA rnZ) 55
  have hA := refAll_any l x n c _ hL (hl.kept hba) hL47
  have hsz : (w.alloc (.cells (rnA rnZ) 55)).heap.size = n0 + 1 := by rw [alloc_sz, hn0]
  rw [hn0] at h2
  go_enter Tryz.func22, Tryz.ntmps22
  go_upto_region 1 with fail
  generalize w.alloc (.cells (rnA rnZ) 55) = Y at h2 hba hsz hA ⊢
  go_wp2_with fail
  refine hA.mono ?_
  rintro e w1 ⟨⟨y, m, cy, rfl, hO1⟩, hb1⟩
  clear hA hl
  have h21 := h2.kept hb1
  have hB1 : Below n0 w w1 := by rw [hn0] at hba; exact hba.trans (hb1.mono (by omega))
  have hs1 := hb1.size
  clear h2 hba hb1
  by_cases h0 : cutE l = 0
  · rw [if_pos h0] at hR
    rw [h0]
    have hlen := cutL_len15 l
    obtain ⟨ts, hts⟩ : ∃ q, cutL l = q := ⟨_, rfl⟩
    rw [hts] at hO1 hR hlen
    rw [hL] at hR
    clear hts h0
    have hm : m = ts.length := by
      obtain ⟨x9, c9, he9⟩ := (hO1.isK tkE14_ok).len
      simp only [Value.slice.injEq] at he9
      exact he9.2.1
    subst hm
    have hbz := below_alloc w1 (.cells #[.slice y ts.length cy, .int .i64 (n : Int), .int .i64 0, .int .i64 0, .int .i64 0, .int .i64 0] 106)
    have hRd : Rd (w1.alloc (.cells #[.slice y ts.length cy, .int .i64 (n : Int), .int .i64 0, .int .i64 0, .int .i64 0, .int .i64 0] 106)) w1.heap.size ⟨y, ts.length, cy⟩ ts (n : Int) ps0 :=
      ⟨RowC.new _ _ _, (hO1.keep hbz).le (Nat.zero_le _), fun b hb => (World.ownsRow.lt hO1 b hb).2, by omega⟩
    have h2z := h21.kept hbz
    have hBz : Below n0 w (w1.alloc (.cells #[.slice y ts.length cy, .int .i64 (n : Int), .int .i64 0, .int .i64 0, .int .i64 0, .int .i64 0] 106)) := hB1.trans (hbz.mono (by have := hB1.size; omega))
    have hsz9 := alloc_sz w1 (.cells #[.slice y ts.length cy, .int .i64 (n : Int), .int .i64 0, .int .i64 0, .int .i64 0, .int .i64 0] 106)
    clear hO1 hbz h21 hB1
    go_upto_region 5 with fail
    obtain ⟨gr, hgr⟩ : ∃ q, w1.heap.size = q := ⟨_, rfl⟩
    rw [hgr] at hRd hs1 hsz9 ⊢
    generalize w1.alloc (.cells #[.slice y ts.length cy, .int .i64 (n : Int), .int .i64 0, .int .i64 0, .int .i64 0, .int .i64 0] 106) = Z at hRd h2z hBz hsz9 ⊢
    have hV := rdValue_any (2 * ts.length + 1) Z gr ⟨y, ts.length, cy⟩ ts (n : Int) ps0 hRd ⟨Nat.zero_le _, Nat.le_refl _, trivial⟩ (by show 2 * (ts.length - 0) + 1 ≤ _; omega)
    unfold prsT at hR
    obtain ⟨q, hq⟩ : ∃ q, prsF ts (n : Int) (2 * ts.length + 1) none ps0 = q := ⟨_, rfl⟩
    rw [hq] at hV hR
    go_wp2_with fail
    refine hV.mono ?_
    rintro e w2 ⟨r9, rfl, hN2, hR2, hG2⟩
    clear hV hRd hq
    have hrn : n0 ≠ gr := by omega
    have h22 := h2z.block (hG2.block n0 h2z.lt (fun e => by cases e; omega))
    have hB2 : Below n0 w w2 := hBz.trans ⟨hG2.os, hG2.tape, hG2.output, hG2.size, fun k hk => hG2.block k (by have := hBz.size; omega) (fun e => by cases e; omega)⟩
    have hs2 := hG2.size
    have hb9 := below_alloc w2 (.cells (rnA r9) 55)
    have h23 := h22.kept hb9
    have hR3 := hR2.stay hb9
    have hN3 : NdF (w2.alloc (.cells (rnA r9) 55)) (n0 + 1 ≤ ·) r9 q.1 := (hN2.kept hb9).mono (fun b hb => by omega)
    have hB3 : Below n0 w (w2.alloc (.cells (rnA r9) 55)) := hB2.trans (hb9.mono (by have := hB2.size; omega))
    have h93 := RowC.new w2 (rnA r9) 55
    have hrg : gr < w2.heap.size := by omega
    clear h2z hBz hN2 hR2 hG2 h22 hB2 hb9
    go_upto_region 6 with fail
    obtain ⟨g9, hg9⟩ : ∃ q, w2.heap.size = q := ⟨_, rfl⟩
    rw [hg9] at h93 hrg hs2 ⊢
    generalize w2.alloc (.cells (rnA r9) 55) = V at h23 hR3 hN3 hB3 h93 ⊢
    obtain ⟨c0, -, c2, c3, c4, -⟩ := hR3.cells
    replace c0 : V.cell? ⟨gr, 0, none⟩ = some (.slice y ts.length cy) := c0
    obtain ⟨t, ht⟩ : ∃ q9, q.2 = q9 := ⟨_, rfl⟩
    obtain ⟨d, hd⟩ : ∃ q9, q.1 = q9 := ⟨_, rfl⟩
    have hE : endP ts (n : Int) q = if t.e = 0 ∧ t.i < ts.length then failP t 14 (atP ts (n : Int) t) else t := by unfold endP; rw [ht]
    rw [hd] at hR
    rw [ht] at hR3 c2 c3 c4
    rw [hd] at hN3
    clear ht hd
    obtain ⟨i, hi9⟩ : ∃ q, t.i = q := ⟨_, rfl⟩
    rw [hi9] at c2
    by_cases h0 : t.e = 0
    · by_cases hi : i < ts.length
      · -- a token more
        rw [if_pos ⟨h0, by omega⟩] at hE
        rw [hE] at hR
        clear hE
        have i1 : (i : Int) < (ts.length : Int) := by omega
        rw [h0] at c3
        have HR : Hid _ := hR
        have HR3 : Hid (Rd V gr ⟨y, ts.length, cy⟩ ts (n : Int) t) := hR3
        have H23 : Hid (RowC V n0 (rnA rnZ)) := h23
        have HB3 : Hid (Below n0 w V) := hB3
        clear hR hR3 h23 hB3 h93 hN3
        refine wp_relies [Fx (.pointer (some ⟨gr, 0, none⟩)), Fx (.pointer (some ⟨gr, 0, none⟩)), Fx (.pointer (some ⟨gr, 3, none⟩)), Fx (.int .i64 0), Fx (.bool true), Fx (.bool true), Fx (.pointer (some ⟨gr, 0, none⟩)), Fx (.pointer (some ⟨gr, 0, none⟩)), Fx (.pointer (some ⟨gr, 2, none⟩)), Fx (.int .i64 (i : Int)), Fx (.pointer (some ⟨gr, 0, none⟩)), Fx (.pointer (some ⟨gr, 0, none⟩)), Fx (.pointer (some ⟨gr, 0, none⟩)), Fx (.slice y ts.length cy), Fx (.int .i64 (ts.length : Int)), Fx (.bool true), Fx (.bool true)] (by kernel_rfl) (by kernel_rfl) ?_ ?_ ?_
        · repeat' (first | exact all_nil | apply all_cons)
          all_goals intro v y y' hv hb
          all_goals first | exact Fx_mono _ _ _ _ hv hb
        · refine ⟨?_, ?_, ?_, ?_, ?_, ?_, ?_, ?_, ?_, ?_, ?_, ?_, ?_, ?_, ?_, ?_, ?_, trivial⟩
          all_goals
            intro ρ y9 hp ρc ρg ρf ho hd
            have o8 : ρ (.tmp 8) = .pointer (some ⟨gr, 0, none⟩) := ho 8 rfl
            clear ho
            replace c0 := cell_later hp c0
            replace c2 := cell_later hp c2
            replace c3 := cell_later hp c3
            simp only [depsR, depR, slotR, Fx, List.getElem?_cons_succ, List.getElem?_cons_zero, Region.binds, forall_const] at hd
            simp only [guardR]
            go_split_ands
          · go_simp
          · go_simp
          · go_simp
          · go_simp
          · go_simp
          · go_simp
          · refine ⟨fun _ => ?_, fun hy => absurd (by simp [yieldR, slotR, *]) hy⟩
            go_simp
          · refine ⟨fun _ => ?_, fun hy => absurd (by simp [yieldR, slotR, *]) hy⟩
            go_simp
          · refine ⟨fun _ => ?_, fun hy => absurd (by simp [yieldR, slotR, *]) hy⟩
            go_simp
          · refine ⟨fun _ => ?_, fun hy => absurd (by simp [yieldR, slotR, *]) hy⟩
            go_simp
          · refine ⟨fun _ => ?_, fun hy => absurd (by simp [yieldR, slotR, *]) hy⟩
            go_simp
          · refine ⟨fun _ => ?_, fun hy => absurd (by simp [yieldR, slotR, *]) hy⟩
            go_simp
          · refine ⟨fun _ => ?_, fun hy => absurd (by simp [yieldR, slotR, *]) hy⟩
            go_simp
          · refine ⟨fun _ => ?_, fun hy => absurd (by simp [yieldR, slotR, *]) hy⟩
            go_simp
          · refine ⟨fun _ => ?_, fun hy => absurd (by simp [yieldR, slotR, *]) hy⟩
            go_simp
          · refine ⟨fun _ => ?_, fun hy => absurd (by simp [yieldR, slotR, *]) hy⟩
            go_simp
          · go_simp
        · intro us x1 hp1 hw
          simp only [owed, Fx] at hw
          obtain ⟨e0, e1, e2, e3, e4, e5, e6, e7, e8, e9, e10, e11, e12, e13, e14, e15, e16, -⟩ := hw
          simp only [List.length_cons, List.length_nil, List.take_succ_cons, List.take_nil, List.drop_succ_cons, List.drop_nil, asg, List.cons_append, List.nil_append, e0, e1, e2, e3, e4, e5, e6, e7, e8, e9, e10, e11, e12, e13, e14, e15, e16]
          clear e0 e1 e2 e3 e4 e5 e6 e7 e8 e9 e10 e11 e12 e13 e14 e15 e16
          have hA := rdAt_any x1 gr ⟨y, ts.length, cy⟩ ts (n : Int) t (Rd.stay HR3.out hp1)
          go_wp2_with fail
          refine hA.mono ?_
          rintro e w4 ⟨rfl, hb4⟩
          clear hA
          have hF := rdFail_any w4 gr ⟨y, ts.length, cy⟩ ts (n : Int) t 14 (atP ts (n : Int) t) (Rd.stay (Rd.stay HR3.out hp1) hb4)
          go_wp2_with fail
          refine hF.mono ?_
          rintro e w5 ⟨rfl, hR5, hG5⟩
          clear hF
          have h24 := (RowC.kept H23.out hp1).kept hb4
          have h25 : RowC w5 n0 (rnA rnZ) := h24.block (hG5.block n0 h24.lt (fun e => by cases e; omega))
          have hB5 : Below n0 w w5 := by
            have h9 := (Below.trans HB3.out (hp1.mono (by have := h24.lt; have := Below.size HB3.out; omega)))
            have h8 := h9.trans (hb4.mono (by have := h9.size; omega))
            exact h8.trans ⟨hG5.os, hG5.tape, hG5.output, hG5.size, fun k hk => hG5.block k (by have := h8.size; omega) (fun e => by cases e; omega)⟩
          have hfp : failP t 14 (atP ts (n : Int) t) = ⟨t.i, 14, atP ts (n : Int) t, t.op⟩ := by unfold failP; rw [if_pos h0]
          rw [hfp] at hR5
          have hR' := HR.out
          rw [hfp, if_neg (by show ¬ (14 : Int) = 0; decide)] at hR'
          obtain ⟨t9, ht9⟩ : ∃ q : Ps, ⟨t.i, 14, atP ts (n : Int) t, t.op⟩ = q := ⟨_, rfl⟩
          have HE : Hid ((ndZ, t9.e, t9.bad) = R) := by rw [← ht9]; exact hR'
          have f0 : (t9.e != 0) = true := by rw [← ht9]; rfl
          rw [ht9] at hR5
          clear hR' hfp ht9 HR HR3 H23 HB3 hb4 hG5 h24 hp1
          generalize w5 = X at *
          obtain ⟨-, -, -, k3, k4, -⟩ := hR5.cells
          have H25 : Hid (RowC X n0 (rnA rnZ)) := h25
          have HB5 : Hid (Below n0 w X) := hB5
          have HX : Hid (n0 < X.heap.size) := h25.lt
          clear hR5 h25 hB5
          go_upto_region 9 with fail
          refine wp_reliesU kokBelow (fun _ _ z => RowC z n0 (rnA rnZ)) [9] [Fx (.agg #[.int .i64 0, .int .i64 0, .string ⟨#[]⟩, .slice none 0 0, .slice none 0 0]), Fx (.pointer (some ⟨gr, 0, none⟩)), Fx (.pointer (some ⟨gr, 0, none⟩)), Fx (.pointer (some ⟨gr, 3, none⟩)), Fx (.int .i64 t9.e), Fx (.pointer (some ⟨gr, 0, none⟩)), Fx (.pointer (some ⟨gr, 0, none⟩)), Fx (.pointer (some ⟨gr, 4, none⟩)), Fx (.int .i64 t9.bad), (fun _ _ => True), Fx (.int .i64 t9.e), Fx (.int .i64 t9.bad)] (by kernel_rfl) (by kernel_rfl) (by kernel_rfl) (by kernel_rfl) (by exact H25.out) (fun _ _ _ _ h9 hb9 => RowC.kept h9 hb9) (fun _ _ _ _ _ _ _ h9 => h9) ?_ ?_ ?_
          · repeat' (first | exact all_nil | apply all_cons)
            all_goals intro v y y' hv hb
            all_goals first | exact (show Fx _ _ _ from hv) | exact trivial
          · refine ⟨?_, ?_, ?_, ?_, ?_, ?_, ?_, ?_, ?_, ?_, ?_, ?_, trivial⟩
            all_goals
              intro ρ x dn hk hat hrd ρc ρg ρf ho hd
              have o8 : ρ (.tmp 8) = .pointer (some ⟨gr, 0, none⟩) := ho 8 rfl
              have o2 : ρ (.tmp 2) = .pointer (some ⟨n0, 0, none⟩) := ho 2 rfl
              clear ho
              replace k3 := cell_later hk k3
              replace k4 := cell_later hk k4
              simp only [depsR, depR, slotR, Fx, List.getElem?_cons_succ, List.getElem?_cons_zero, Region.binds, forall_const] at hd
              simp only [guardR, List.contains_cons, List.contains_nil, List.elem_cons, List.elem_nil, Nat.reduceBEq, Bool.or_false, Bool.false_or, Bool.or_true, Bool.true_or, cond_true, cond_false]
              go_split_ands
            · go_simp
            · go_simp
            · go_simp
            · go_simp
            · go_simp
            · go_simp
            · go_simp
            · go_simp
            · go_simp
            · have hat0 : RowC x n0 (rnA rnZ) := hat
              obtain ⟨b1, b2⟩ := id hat0
              have b3 : (rowAt x n0).size = 5 := by rw [b2]; rfl
              have hself : x.setRow n0 (rnA rnZ) = x := by
                obtain ⟨t8, hg8⟩ := row_of_L b1
                rw [b2] at hg8
                exact setRow_self x n0 _ t8 _ hg8
              have hst := run_store_nd x n0 (rnA rnZ) b1 b3 rfl (rnA_one _)
              rw [hself] at hst
              have hd0 : ρ (.tmp 54) = .agg (rnA rnZ) := by first | assumption | exact hd.1
              have hst2 : (bigStore 55 (ρ (.tmp 2)) (ρ (.tmp 54))).run Tryz.prog x = .ok .skip x := by rw [o2, hd0]; exact hst
              simp only [execOp_store_nd, hst2, okUponD_none, okSkip_skip]
              exact ⟨⟨trivial, hat0⟩, Below.refl _ _⟩
            · go_simp
            · go_simp
          · intro us x3 hk hw hI
            simp only [owed, Fx] at hw
            obtain ⟨e0, e1, e2, e3, e4, e5, e6, e7, e8, e9, e10, e11, -⟩ := hw
            simp only [asg, e0, e1, e2, e3, e4, e5, e6, e7, e8, e10, e11]
            clear e0 e1 e2 e3 e4 e5 e6 e7 e8 e10 e11 e9
            have h2x : RowC x3 n0 (rnA rnZ) := hI
            have HP : Hid (PsP R w (.returned (.tuple #[.agg (rnA rnZ), .int .i64 t9.e, .int .i64 t9.bad])) x3) := by
              have hBx : Below n0 w x3 := Below.trans HB5.out (hk.mono (by have : n0 < X.heap.size := HX.out; omega))
              rw [← HE.out]
              exact ⟨rnZ, rfl, NdF.plain x3 _ 0 0 ⟨#[]⟩, by rw [hn0]; exact hBx⟩
            clear HB5 hk hI HE H25 HX
            go_wp2
            exact nd_bodyPost3 2 3 4 n0 (rnA rnZ) rfl rfl rfl h2x rfl HP.out
      · -- the value
        rw [if_neg (fun h => by have := h.2; omega)] at hE
        rw [hE, if_pos h0] at hR
        clear hE
        have i1 : ¬ (i : Int) < (ts.length : Int) := by omega
        rw [h0] at c3
        have HR : Hid _ := hR
        have H23 : Hid (RowC V n0 (rnA rnZ)) := h23
        have H93 : Hid (RowC V g9 (rnA r9)) := h93
        have HB3 : Hid (Below n0 w V) := hB3
        have HN3 : Hid (NdF V (n0 + 1 ≤ ·) r9 d) := hN3
        clear hR hR3 h23 hB3 h93 hN3 h0
        refine wp_relies [Fx (.pointer (some ⟨gr, 0, none⟩)), Fx (.pointer (some ⟨gr, 0, none⟩)), Fx (.pointer (some ⟨gr, 3, none⟩)), Fx (.int .i64 0), Fx (.bool true), Fx (.bool true), Fx (.pointer (some ⟨gr, 0, none⟩)), Fx (.pointer (some ⟨gr, 0, none⟩)), Fx (.pointer (some ⟨gr, 2, none⟩)), Fx (.int .i64 (i : Int)), Fx (.pointer (some ⟨gr, 0, none⟩)), Fx (.pointer (some ⟨gr, 0, none⟩)), Fx (.pointer (some ⟨gr, 0, none⟩)), Fx (.slice y ts.length cy), Fx (.int .i64 (ts.length : Int)), Fx (.bool false), Fx (.bool false)] (by kernel_rfl) (by kernel_rfl) ?_ ?_ ?_
        · repeat' (first | exact all_nil | apply all_cons)
          all_goals intro v y y' hv hb
          all_goals first | exact Fx_mono _ _ _ _ hv hb
        · refine ⟨?_, ?_, ?_, ?_, ?_, ?_, ?_, ?_, ?_, ?_, ?_, ?_, ?_, ?_, ?_, ?_, ?_, trivial⟩
          all_goals
            intro ρ y9 hp ρc ρg ρf ho hd
            have o8 : ρ (.tmp 8) = .pointer (some ⟨gr, 0, none⟩) := ho 8 rfl
            clear ho
            replace c0 := cell_later hp c0
            replace c2 := cell_later hp c2
            replace c3 := cell_later hp c3
            simp only [depsR, depR, slotR, Fx, List.getElem?_cons_succ, List.getElem?_cons_zero, Region.binds, forall_const] at hd
            simp only [guardR]
            go_split_ands
          · go_simp
          · go_simp
          · go_simp
          · go_simp
          · go_simp
          · go_simp
          · refine ⟨fun _ => ?_, fun hy => absurd (by simp [yieldR, slotR, *]) hy⟩
            go_simp
          · refine ⟨fun _ => ?_, fun hy => absurd (by simp [yieldR, slotR, *]) hy⟩
            go_simp
          · refine ⟨fun _ => ?_, fun hy => absurd (by simp [yieldR, slotR, *]) hy⟩
            go_simp
          · refine ⟨fun _ => ?_, fun hy => absurd (by simp [yieldR, slotR, *]) hy⟩
            go_simp
          · refine ⟨fun _ => ?_, fun hy => absurd (by simp [yieldR, slotR, *]) hy⟩
            go_simp
          · refine ⟨fun _ => ?_, fun hy => absurd (by simp [yieldR, slotR, *]) hy⟩
            go_simp
          · refine ⟨fun _ => ?_, fun hy => absurd (by simp [yieldR, slotR, *]) hy⟩
            go_simp
          · refine ⟨fun _ => ?_, fun hy => absurd (by simp [yieldR, slotR, *]) hy⟩
            go_simp
          · refine ⟨fun _ => ?_, fun hy => absurd (by simp [yieldR, slotR, *]) hy⟩
            go_simp
          · refine ⟨fun _ => ?_, fun hy => absurd (by simp [yieldR, slotR, *]) hy⟩
            go_simp
          · go_simp
        · intro us x1 hp1 hw
          simp only [owed, Fx] at hw
          obtain ⟨e0, e1, e2, e3, e4, e5, e6, e7, e8, e9, e10, e11, e12, e13, e14, e15, e16, -⟩ := hw
          simp only [List.length_cons, List.length_nil, List.take_succ_cons, List.take_nil, List.drop_succ_cons, List.drop_nil, asg, List.cons_append, List.nil_append, e0, e1, e2, e3, e4, e5, e6, e7, e8, e9, e10, e11, e12, e13, e14, e15, e16]
          clear e0 e1 e2 e3 e4 e5 e6 e7 e8 e9 e10 e11 e12 e13 e14 e15 e16
          have c31 := cell_later hp1 c3
          have h2x : RowC x1 n0 (rnA rnZ) := RowC.kept H23.out hp1
          have h9x : RowC x1 g9 (rnA r9) := RowC.kept H93.out hp1
          have hBx : Below n0 w x1 := Below.trans HB3.out (hp1.mono (by have := RowC.lt H23.out; have := Below.size HB3.out; omega))
          have HNx : Hid (NdF x1 (n0 + 1 ≤ ·) r9 d) := NdF.kept HN3.out hp1
          obtain ⟨b1, b2⟩ := id h2x
          obtain ⟨a1, a2⟩ := id h9x
          have b3 : (rowAt x1 n0).size = 5 := by rw [b2]; rfl
          have a3 : (rowAt x1 g9).size = 5 := by rw [a2]; rfl
          clear c3 H23 H93 HB3 HN3 hp1
          go_wp2
          exact nd_bodyPost3 2 3 4 n0 (rnA r9) rfl rfl rfl (RowC.setRow h2x _) rfl (by rw [← HR.out]; exact psp_end (q := (d, 0, 0)) hBx hn0 (Nat.le_refl _) HNx.out)
    · -- an error
      rw [if_neg (fun h => h0 h.1)] at hE
      rw [hE, if_neg h0] at hR
      clear hE
      have f00 : (t.e == 0) = false := beq_eq_false_iff_ne.2 h0
      have HE : Hid ((ndZ, t.e, t.bad) = R) := hR
      have HR3 : Hid (Rd V gr ⟨y, ts.length, cy⟩ ts (n : Int) t) := hR3
      have H23 : Hid (RowC V n0 (rnA rnZ)) := h23
      have HB3 : Hid (Below n0 w V) := hB3
      clear hR hR3 h23 hB3 h93 hN3
      refine wp_relies [Fx (.pointer (some ⟨gr, 0, none⟩)), Fx (.pointer (some ⟨gr, 0, none⟩)), Fx (.pointer (some ⟨gr, 3, none⟩)), Fx (.int .i64 t.e), Fx (.bool false), Fx (.bool false), Fx (undef), Fx (undef), Fx (undef), Fx (undef), Fx (undef), Fx (undef), Fx (undef), Fx (undef), Fx (undef), Fx (undef), Fx (.bool false)] (by kernel_rfl) (by kernel_rfl) ?_ ?_ ?_
      · repeat' (first | exact all_nil | apply all_cons)
        all_goals intro v y y' hv hb
        all_goals first | exact Fx_mono _ _ _ _ hv hb
      · refine ⟨?_, ?_, ?_, ?_, ?_, ?_, ?_, ?_, ?_, ?_, ?_, ?_, ?_, ?_, ?_, ?_, ?_, trivial⟩
        all_goals
          intro ρ y9 hp ρc ρg ρf ho hd
          have o8 : ρ (.tmp 8) = .pointer (some ⟨gr, 0, none⟩) := ho 8 rfl
          clear ho
          replace c3 := cell_later hp c3
          simp only [depsR, depR, slotR, Fx, List.getElem?_cons_succ, List.getElem?_cons_zero, Region.binds, forall_const] at hd
          simp only [guardR]
          go_split_ands
        · go_simp
        · go_simp
        · go_simp
        · go_simp
        · go_simp
        · go_simp
        · refine ⟨fun hy => ?_, fun _ => rfl⟩
          exfalso; simp [yieldR, slotR, undef, *] at hy
        · refine ⟨fun hy => ?_, fun _ => rfl⟩
          exfalso; simp [yieldR, slotR, undef, *] at hy
        · refine ⟨fun hy => ?_, fun _ => rfl⟩
          exfalso; simp [yieldR, slotR, undef, *] at hy
        · refine ⟨fun hy => ?_, fun _ => rfl⟩
          exfalso; simp [yieldR, slotR, undef, *] at hy
        · refine ⟨fun hy => ?_, fun _ => rfl⟩
          exfalso; simp [yieldR, slotR, undef, *] at hy
        · refine ⟨fun hy => ?_, fun _ => rfl⟩
          exfalso; simp [yieldR, slotR, undef, *] at hy
        · refine ⟨fun hy => ?_, fun _ => rfl⟩
          exfalso; simp [yieldR, slotR, undef, *] at hy
        · refine ⟨fun hy => ?_, fun _ => rfl⟩
          exfalso; simp [yieldR, slotR, undef, *] at hy
        · refine ⟨fun hy => ?_, fun _ => rfl⟩
          exfalso; simp [yieldR, slotR, undef, *] at hy
        · refine ⟨fun hy => ?_, fun _ => rfl⟩
          exfalso; simp [yieldR, slotR, undef, *] at hy
        · go_simp
      · intro us x1 hp1 hw
        simp only [owed, Fx] at hw
        obtain ⟨e0, e1, e2, e3, e4, e5, e6, e7, e8, e9, e10, e11, e12, e13, e14, e15, e16, -⟩ := hw
        simp only [List.length_cons, List.length_nil, List.take_succ_cons, List.take_nil, List.drop_succ_cons, List.drop_nil, asg, List.cons_append, List.nil_append, e0, e1, e2, e3, e4, e5, e6, e7, e8, e9, e10, e11, e12, e13, e14, e15, e16]
        clear e0 e1 e2 e3 e4 e5 e6 e7 e8 e9 e10 e11 e12 e13 e14 e15 e16
        have hR5 : Rd x1 gr ⟨y, ts.length, cy⟩ ts (n : Int) t := Rd.stay HR3.out hp1
        have h25 : RowC x1 n0 (rnA rnZ) := RowC.kept H23.out hp1
        have hB5 : Below n0 w x1 := Below.trans HB3.out (hp1.mono (by have := RowC.lt H23.out; have := Below.size HB3.out; omega))
        have f0 : (t.e != 0) = true := bne_iff_ne.2 h0
        clear HR3 H23 HB3 hp1 c0 c2 c3 c4 h0
        obtain ⟨t9, ht9⟩ : ∃ q, t = q := ⟨_, rfl⟩
        rw [ht9] at HE hR5 f0
        generalize x1 = X at *
        obtain ⟨-, -, -, k3, k4, -⟩ := hR5.cells
        have H25 : Hid (RowC X n0 (rnA rnZ)) := h25
        have HB5 : Hid (Below n0 w X) := hB5
        have HX : Hid (n0 < X.heap.size) := h25.lt
        clear hR5 h25 hB5
        go_upto_region 9 with fail
        refine wp_reliesU kokBelow (fun _ _ z => RowC z n0 (rnA rnZ)) [9] [Fx (.agg #[.int .i64 0, .int .i64 0, .string ⟨#[]⟩, .slice none 0 0, .slice none 0 0]), Fx (.pointer (some ⟨gr, 0, none⟩)), Fx (.pointer (some ⟨gr, 0, none⟩)), Fx (.pointer (some ⟨gr, 3, none⟩)), Fx (.int .i64 t9.e), Fx (.pointer (some ⟨gr, 0, none⟩)), Fx (.pointer (some ⟨gr, 0, none⟩)), Fx (.pointer (some ⟨gr, 4, none⟩)), Fx (.int .i64 t9.bad), (fun _ _ => True), Fx (.int .i64 t9.e), Fx (.int .i64 t9.bad)] (by kernel_rfl) (by kernel_rfl) (by kernel_rfl) (by kernel_rfl) (by exact H25.out) (fun _ _ _ _ h9 hb9 => RowC.kept h9 hb9) (fun _ _ _ _ _ _ _ h9 => h9) ?_ ?_ ?_
        · repeat' (first | exact all_nil | apply all_cons)
          all_goals intro v y y' hv hb
          all_goals first | exact (show Fx _ _ _ from hv) | exact trivial
        · refine ⟨?_, ?_, ?_, ?_, ?_, ?_, ?_, ?_, ?_, ?_, ?_, ?_, trivial⟩
          all_goals
            intro ρ x dn hk hat hrd ρc ρg ρf ho hd
            have o8 : ρ (.tmp 8) = .pointer (some ⟨gr, 0, none⟩) := ho 8 rfl
            have o2 : ρ (.tmp 2) = .pointer (some ⟨n0, 0, none⟩) := ho 2 rfl
            clear ho
            replace k3 := cell_later hk k3
            replace k4 := cell_later hk k4
            simp only [depsR, depR, slotR, Fx, List.getElem?_cons_succ, List.getElem?_cons_zero, Region.binds, forall_const] at hd
            simp only [guardR, List.contains_cons, List.contains_nil, List.elem_cons, List.elem_nil, Nat.reduceBEq, Bool.or_false, Bool.false_or, Bool.or_true, Bool.true_or, cond_true, cond_false]
            go_split_ands
          · go_simp
          · go_simp
          · go_simp
          · go_simp
          · go_simp
          · go_simp
          · go_simp
          · go_simp
          · go_simp
          · have hat0 : RowC x n0 (rnA rnZ) := hat
            obtain ⟨b1, b2⟩ := id hat0
            have b3 : (rowAt x n0).size = 5 := by rw [b2]; rfl
            have hself : x.setRow n0 (rnA rnZ) = x := by
              obtain ⟨t8, hg8⟩ := row_of_L b1
              rw [b2] at hg8
              exact setRow_self x n0 _ t8 _ hg8
            have hst := run_store_nd x n0 (rnA rnZ) b1 b3 rfl (rnA_one _)
            rw [hself] at hst
            have hd0 : ρ (.tmp 54) = .agg (rnA rnZ) := by first | assumption | exact hd.1
            have hst2 : (bigStore 55 (ρ (.tmp 2)) (ρ (.tmp 54))).run Tryz.prog x = .ok .skip x := by rw [o2, hd0]; exact hst
            simp only [execOp_store_nd, hst2, okUponD_none, okSkip_skip]
            exact ⟨⟨trivial, hat0⟩, Below.refl _ _⟩
          · go_simp
          · go_simp
        · intro us x3 hk hw hI
          simp only [owed, Fx] at hw
          obtain ⟨e0, e1, e2, e3, e4, e5, e6, e7, e8, e9, e10, e11, -⟩ := hw
          simp only [asg, e0, e1, e2, e3, e4, e5, e6, e7, e8, e10, e11]
          clear e0 e1 e2 e3 e4 e5 e6 e7 e8 e10 e11 e9
          have h2x : RowC x3 n0 (rnA rnZ) := hI
          have HP : Hid (PsP R w (.returned (.tuple #[.agg (rnA rnZ), .int .i64 t9.e, .int .i64 t9.bad])) x3) := by
            have hBx : Below n0 w x3 := Below.trans HB5.out (hk.mono (by have : n0 < X.heap.size := HX.out; omega))
            rw [← HE.out]
            exact ⟨rnZ, rfl, NdF.plain x3 _ 0 0 ⟨#[]⟩, by rw [hn0]; exact hBx⟩
          clear HB5 hk hI HE H25 HX
          go_wp2
          exact nd_bodyPost3 2 3 4 n0 (rnA rnZ) rfl rfl rfl h2x rfl HP.out
  · have f0 : (cutE l != 0) = true := bne_iff_ne.2 h0
    rw [if_neg h0] at hR
    obtain ⟨b1, b2⟩ := id h21
    have b3 : (rowAt w1 n0).size = 5 := by rw [b2]; rfl
    clear hO1
    go_wp2
    exact nd_bodyPost3 2 3 4 n0 (rnA ⟨0, 0, ⟨#[]⟩, slZ, slZ⟩) rfl rfl rfl (RowC.setRow h21 _) rfl (by rw [← hR]; exact psp_end (q := (ndZ, cutE l, cutP l)) hB1 hn0 (Nat.le_refl _) (NdF.plain w1 _ 0 0 ⟨#[]⟩))
end Go.Proofs.YtalnbddkhojjbaaGreatDoor
