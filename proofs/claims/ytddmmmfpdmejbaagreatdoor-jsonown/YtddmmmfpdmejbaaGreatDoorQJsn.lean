import Derived.Test.YtddmmmfpdmejbaaGreatDoorQNum
import Derived.Test.YtddmmmfpdmejbaaGreatDoorQLex9
namespace Go.Proofs.YtddmmmfpdmejbaaGreatDoor
open Go.RowKit

/-! Nodes in memory -/
structure Sl where
  x : Option Addr
  n : Nat
  c : Nat
def Sl.v (a : Sl) : Value := .slice a.x a.n a.c
structure Rn where
  k : Int
  n : Int
  s : ByteArray
  ks : Sl
  vs : Sl
def slZ : Sl := ⟨none, 0, 0⟩
def rnZ : Rn := ⟨0, 0, ⟨#[]⟩, slZ, slZ⟩
def rnA (r : Rn) : Array Value := #[.int .i64 r.k, .int .i64 r.n, .string r.s, r.ks.v, r.vs.v]
def ndE : EK Rn := { T := 41, S := 39, k := 5, bytes := 80, z := .agg (rnA rnZ), enc := fun r => (rnA r).toList }
theorem ndE_ok : ndE.Ok where
  len x := rfl
  one x v hv := by
    unfold ndE rnA Sl.v at hv
    simp only [List.mem_cons, List.not_mem_nil, or_false] at hv
    rcases hv with rfl | rfl | rfl | rfl | rfl <;> rfl
  und := Tryz.underlying39
  info := by
    have h : (Tryz.prog.info? 41).map (fun i => (i.zero, i.size, i.bytes)) = some (some (.agg (rnA rnZ)), 5, 80) := by kernel_rfl
    exact h
  zc := rfl
  kp := by show 0 < 5; omega
  row := ⟨_, Tryz.underlying41, rfl⟩
theorem eltS : Elt 22 9 16 := ⟨Tryz.underlying22, by
  have h : (Tryz.prog.info? 9).map (fun i => (i.zero, i.size, i.bytes)) = some (some (.string ⟨#[]⟩), 1, 16) := by kernel_rfl
  obtain ⟨i, hi, hzz⟩ := Option.map_eq_some_iff.1 h
  simp only [Prod.mk.injEq] at hzz
  exact ⟨i, _, hi, hzz.1, hzz.2.1, hzz.2.2, rfl⟩⟩
/-- The block that a slice lies in, if there is anything in it. -/
def Sl.In (a : Sl) (F : Nat → Prop) : Prop := 0 < a.n → ∀ p, a.x = some p → F p.block
def strs (l : List ByteArray) : List Value := l.map Value.string
set_option linter.unusedVariables false
def NdF (w : World) (F : Nat → Prop) (i1 : Rn) (i2 : Nd) : Prop := ∀ Q : Rn → Nd → Prop, (∀ (r : Rn) (kb : List ByteArray) (rs : List Rn) (vs : List Nd) (hk : IsG w r.ks.v (strs kb)) (hkF : r.ks.In F) (hv : IsK ndE w r.vs.v rs) (hvF : r.vs.In F) (hl : rs.length = vs.length) (hz : r.ks.n ≤ 17592186044416 ∧ r.vs.n ≤ 17592186044416) (he : ∀ (i : Nat) a d, rs[i]? = some a → vs[i]? = some d → Q a d), Q r (.mk r.k r.n (lS r.s) (kb.map lS) vs)) → Q i1 i2
theorem NdF.mk {w : World} {F : Nat → Prop} (r : Rn) (kb : List ByteArray) (rs : List Rn) (vs : List Nd) (hk : IsG w r.ks.v (strs kb)) (hkF : r.ks.In F) (hv : IsK ndE w r.vs.v rs) (hvF : r.vs.In F) (hl : rs.length = vs.length) (hz : r.ks.n ≤ 17592186044416 ∧ r.vs.n ≤ 17592186044416) (he : ∀ (i : Nat) a d, rs[i]? = some a → vs[i]? = some d → NdF w F a d) : NdF w F r (.mk r.k r.n (lS r.s) (kb.map lS) vs) := fun Q q0 => q0 r kb rs vs hk hkF hv hvF hl hz (fun i a d hz0 hz1 => he i a d hz0 hz1 Q q0)
theorem NdF.rc {w : World} {F : Nat → Prop} {M : ∀ (i1 : Rn) (i2 : Nd), NdF w F i1 i2 → Prop} (mk : ∀ (r : Rn) (kb : List ByteArray) (rs : List Rn) (vs : List Nd) (hk : IsG w r.ks.v (strs kb)) (hkF : r.ks.In F) (hv : IsK ndE w r.vs.v rs) (hvF : r.vs.In F) (hl : rs.length = vs.length) (hz : r.ks.n ≤ 17592186044416 ∧ r.vs.n ≤ 17592186044416) (he : ∀ (i : Nat) a d, rs[i]? = some a → vs[i]? = some d → NdF w F a d), (∀ (i : Nat) a d (hz0 : rs[i]? = some a) (hz1 : vs[i]? = some d), M a d (he i a d hz0 hz1)) → M r (.mk r.k r.n (lS r.s) (kb.map lS) vs) (NdF.mk r kb rs vs hk hkF hv hvF hl hz he)) {i1 : Rn} {i2 : Nd} (h : NdF w F i1 i2) : M i1 i2 h :=
  (h (fun i1 i2 => ∃ h9 : NdF w F i1 i2, M i1 i2 h9) (fun r kb rs vs hk hkF hv hvF hl hz he => ⟨NdF.mk r kb rs vs hk hkF hv hvF hl hz (fun i a d hz0 hz1 => (he i a d hz0 hz1).1), mk r kb rs vs hk hkF hv hvF hl hz (fun i a d hz0 hz1 => (he i a d hz0 hz1).1) (fun i a d hz0 hz1 => (he i a d hz0 hz1).2)⟩)).2
theorem Sl.In.mono {a : Sl} {F G : Nat → Prop} (h : a.In F) (hFG : ∀ b, F b → G b) : a.In G := fun h0 p hp => hFG _ (h h0 p hp)
theorem NdF.mono {w : World} {F G : Nat → Prop} {r : Rn} {d : Nd} (h : NdF w F r d) (hFG : ∀ b, F b → G b) : NdF w G r d := by
  induction h using NdF.rc with
  | mk r kb rs vs hk hkF hv hvF hl hz he ih => exact .mk r kb rs vs hk (hkF.mono hFG) hv (hvF.mono hFG) hl hz ih
theorem IsG.ag {w w1 : World} {a : Sl} {xs : List Value} {F : Nat → Prop} (h : IsG w a.v xs) (hF : a.In F) (hb : ∀ b, F b → b < w.heap.size → w1.heap[b]? = w.heap[b]?) : IsG w1 a.v xs := by
  rcases h with h | ⟨y, d, he, hc⟩
  · exact .inl h
  · refine .inr ⟨y, d, he, fun i hi => ?_⟩
    have h1 := hc i hi
    have h2 := World.block_lt_of_cell? w _ h1
    unfold Sl.v at he
    simp only [Value.slice.injEq] at he
    have h3 : F y.block := hF (by omega) y he.1
    unfold World.cell? at h1 ⊢
    rw [show w1.heap[(y.add i).block]? = w.heap[(y.add i).block]? from hb _ (by rw [show (y.add i).block = y.block by unfold Addr.add; split <;> rfl]; exact h3) h2]; exact h1
theorem IsK.ag {α : Type} {E : EK α} {w w1 : World} {a : Sl} {xs : List α} {F : Nat → Prop} (h : IsK E w a.v xs) (hF : a.In F) (hs : w.heap.size ≤ w1.heap.size) (hb : ∀ b, F b → b < w.heap.size → w1.heap[b]? = w.heap[b]?) : IsK E w1 a.v xs := by
  obtain ⟨x, c, he, hc, hd⟩ := h
  refine ⟨x, c, he, hc, fun i d hi => ?_⟩
  obtain ⟨b, o, rfl, h1, h2⟩ := hd i d hi
  unfold Sl.v at he
  simp only [Value.slice.injEq] at he
  have h3 : F b := hF (by have := (List.getElem?_eq_some_iff.1 hi).1; omega) _ he.1
  exact ⟨b, o, rfl, by omega, range_block h2 (hb b h3 h1)⟩
theorem NdF.ag {w w1 : World} {F : Nat → Prop} {r : Rn} {d : Nd} (h : NdF w F r d) (hs : w.heap.size ≤ w1.heap.size) (hb : ∀ b, F b → b < w.heap.size → w1.heap[b]? = w.heap[b]?) : NdF w1 F r d := by
  induction h using NdF.rc with
  | mk r kb rs vs hk hkF hv hvF hl hz he ih => exact .mk r kb rs vs (hk.ag hkF hb) hkF (hv.ag hvF hs hb) hvF hl hz ih
theorem IsG.low {w : World} {a : Sl} {xs : List Value} (h : IsG w a.v xs) : a.In (· < w.heap.size) := fun h0 p hp => by
  rcases h with ⟨h, hx⟩ | ⟨y, d, he, hc⟩
  · unfold Sl.v at h; simp only [Value.slice.injEq] at h; rw [h.1] at hp; cases hp
  · unfold Sl.v at he
    simp only [Value.slice.injEq] at he
    rw [he.1] at hp
    cases hp
    exact World.block_lt_of_cell? w _ (hc 0 (by omega))
theorem IsK.low {α : Type} {E : EK α} {w : World} {a : Sl} {xs : List α} (h : IsK E w a.v xs) : a.In (· < w.heap.size) := fun h0 p hp => by
  obtain ⟨x, c, he, hc, hd⟩ := h
  unfold Sl.v at he
  simp only [Value.slice.injEq] at he
  obtain ⟨b, o, hx, h1, -⟩ := hd 0 xs[0] (List.getElem?_eq_getElem (by omega))
  rw [he.1, hx] at hp
  cases hp
  exact h1
theorem Sl.In.and {a : Sl} {F G : Nat → Prop} (h : a.In F) (k : a.In G) : a.In (fun b => F b ∧ G b) := fun h0 p hp => ⟨h h0 p hp, k h0 p hp⟩
theorem NdF.low {w : World} {F : Nat → Prop} {r : Rn} {d : Nd} (h : NdF w F r d) : NdF w (fun b => F b ∧ b < w.heap.size) r d := by
  induction h using NdF.rc with
  | mk r kb rs vs hk hkF hv hvF hl hz he ih => exact .mk r kb rs vs hk (hkF.and hk.low) hv (hvF.and hv.low) hl hz ih
theorem NdF.kept {w w1 : World} {F : Nat → Prop} {r : Rn} {d : Nd} (h : NdF w F r d) (hb : Below w.heap.size w w1) : NdF w1 F r d := h.ag hb.size (fun b _ hl => hb.block b hl)
theorem NdF.plain (w : World) (F : Nat → Prop) (k n : Int) (s : ByteArray) : NdF w F ⟨k, n, s, slZ, slZ⟩ (.mk k n (lS s) [] []) :=
  .mk ⟨k, n, s, slZ, slZ⟩ [] [] [] (.inl ⟨rfl, rfl⟩) (fun h => absurd h (Nat.lt_irrefl 0)) ⟨none, 0, rfl, Nat.le_refl _, fun i d hi => by simp at hi⟩ (fun h => absurd h (Nat.lt_irrefl 0)) rfl ⟨Nat.zero_le _, Nat.zero_le _⟩ (fun i a d hi => by simp at hi)
theorem rowC_range {w : World} {g : Nat} {r : Rn} (h : RowC w g (rnA r)) : w.rangeAt g 0 (ndE.enc r) := fun j v hv => by
  rw [Nat.zero_add, h.cell j, ← Array.getElem?_toList]
  exact hv
theorem IsG.num {w : World} {a : Sl} {xs : List Value} (h : IsG w a.v xs) : a.n = xs.length := by
  obtain ⟨x, c, he⟩ := h.len
  unfold Sl.v at he
  simp only [Value.slice.injEq] at he
  exact he.2.1
theorem IsK.num {α : Type} {E : EK α} {w : World} {a : Sl} {xs : List α} (h : IsK E w a.v xs) : a.n = xs.length := by
  obtain ⟨x, c, he⟩ := h.len
  unfold Sl.v at he
  simp only [Value.slice.injEq] at he
  exact he.2.1
/-! Lists of nodes in memory of their own -/
structure LsO (w : World) (B : Nat) (X : Nat → Prop) (v : Sl) (rs : List Rn) (vs : List Nd) : Prop where
  own : OwnK ndE w B v.v rs
  off : ∀ b, v.v.ownBlock = some b → ¬ X b
  len : rs.length = vs.length
  el : ∀ (i : Nat) a d, rs[i]? = some a → vs[i]? = some d → NdF w (fun b => B ≤ b ∧ v.v.ownBlock ≠ some b ∧ ¬ X b) a d
theorem LsO.nil (w : World) (B : Nat) (X : Nat → Prop) : LsO w B X slZ [] [] := ⟨OwnK.nil ndE w B, fun b h => absurd h (by simp [slZ, Sl.v, Value.ownBlock]), rfl, fun i a d h => absurd h (by simp)⟩
theorem LsO.ag {w w1 : World} {B : Nat} {X : Nat → Prop} {v : Sl} {rs : List Rn} {vs : List Nd} (h : LsO w B X v rs vs) (hs : w.heap.size ≤ w1.heap.size) (hb : ∀ b, B ≤ b → ¬ X b → b < w.heap.size → w1.heap[b]? = w.heap[b]?) : LsO w1 B X v rs vs where
  own := h.own.other14 fun g hg => by
    have := World.ownsRow.lt h.own g hg
    exact hb g this.1 (h.off g hg) this.2
  off := h.off
  len := h.len
  el := fun i a d hi hj => (h.el i a d hi hj).ag hs fun b hB hl => hb b hB.1 hB.2.2 hl
theorem LsO.lt {w : World} {B : Nat} {X : Nat → Prop} {v : Sl} {rs : List Rn} {vs : List Nd} (h : LsO w B X v rs vs) : ∀ b, v.v.ownBlock = some b → B ≤ b ∧ b < w.heap.size := fun b hb => World.ownsRow.lt h.own b hb
theorem Sl.own_in {w : World} {B : Nat} {a : Sl} {rs : List Rn} (h : OwnK ndE w B a.v rs) : a.In (B ≤ ·) := fun h0 p hp => by
  obtain ⟨hn, ⟨h1, h2⟩ | ⟨g, cap, cur, he, hb, -⟩⟩ := h
  · unfold Sl.v at h1; simp only [Value.slice.injEq] at h1; rw [h1.1] at hp; cases hp
  · unfold Sl.v at he; simp only [Value.slice.injEq] at he
    rw [he.1] at hp; cases hp; exact hb
/-- The node that has the list. -/
theorem LsO.node {w : World} {B : Nat} {X : Nat → Prop} {rs : List Rn} {vs : List Nd} (k n : Int) (s : ByteArray) (ks v : Sl) (kb : List ByteArray) (h : LsO w B X v rs vs) (hk : IsG w ks.v (strs kb)) (hkF : ks.In (B ≤ ·)) (hz : ks.n ≤ 17592186044416 ∧ v.n ≤ 17592186044416) : NdF w (B ≤ ·) ⟨k, n, s, ks, v⟩ (.mk k n (lS s) (kb.map lS) vs) :=
  .mk ⟨k, n, s, ks, v⟩ kb rs vs hk hkF (h.own.isK ndE_ok) (Sl.own_in h.own) h.len hz fun i a d hi hj => (h.el i a d hi hj).mono fun _ hb => hb.1
/-- append(v, r), r in the block y. -/
theorem LsO.app {w : World} {B H y : Nat} {X : Nat → Prop} {v : Sl} {rs : List Rn} {vs : List Nd} {r : Rn} {d : Nd} (ty : TypeId) (h : LsO w B X v rs vs) (hB : B ≤ H) (hy : RowC w y (rnA r)) (hX : ∀ b, X b → b < H) (hv : ∀ b, v.v.ownBlock = some b → b < H) (hr : NdF w (H ≤ ·) r d) (hH : H ≤ w.heap.size) (hn : rs.length + 1 ≤ 1759218604441) :
    ∃ a w', (Builtin.append_ #[39, 39] ty #[v.v, .slice (some ⟨y, 0, none⟩) 1 1]).run Tryz.prog w = .ok a.v w' ∧ LsO w' B X a (rs ++ [r]) (vs ++ [d]) ∧ w.grownBy w' v.v.ownBlock ∧ ∀ b, a.v.ownBlock = some b → v.v.ownBlock = some b ∨ b = w.heap.size := by
  have hm : maxLen = 9223372036854775807 := rfl
  obtain ⟨g, c', w', hrun, hO, -, hg, hw⟩ := run_app1K ndE_ok w B y v.v rs r ty h.own (rowC_range hy) hy.lt (by show (rs.length + 1) * 80 ≤ 140737488355328; omega) (by omega) (by omega)
  have hoff : ∀ b, v.v.ownBlock ≠ some b → b < w.heap.size → w'.heap[b]? = w.heap[b]? := fun b hb hl => hg.block b hl (fun e => hb e.symm)
  refine ⟨⟨some ⟨g, 0, none⟩, rs.length + 1, c'⟩, w', hrun, ⟨hO, ?_, by simp [h.len], ?_⟩, hg, fun b hb => by cases hb; exact hw⟩
  · intro b hb hx
    cases hb
    rcases hw with hw | hw
    · exact h.off g hw hx
    · have := hX g hx; omega
  · intro i a e hi hj
    have hF : ∀ b, (B ≤ b ∧ b < w.heap.size ∧ v.v.ownBlock ≠ some b ∧ ¬ X b) → (B ≤ b ∧ (Sl.v ⟨some ⟨g, 0, none⟩, rs.length + 1, c'⟩).ownBlock ≠ some b ∧ ¬ X b) := fun b hb => ⟨hb.1, fun e => by
      cases e
      rcases hw with hw | hw
      · exact hb.2.2.1 hw
      · have h9 : g < w.heap.size := hb.2.1
        omega, hb.2.2.2⟩
    by_cases hlt : i < rs.length
    · rw [List.getElem?_append_left hlt] at hi
      rw [List.getElem?_append_left (by rw [← h.len]; exact hlt)] at hj
      have h9 := (h.el i a e hi hj).low
      refine (h9.ag hg.size fun b hb hl => hoff b hb.1.2.1 hl).mono fun b hb => hF b ⟨hb.1.1, hb.2, hb.1.2.1, hb.1.2.2⟩
    · have hi0 : i = rs.length := by have := (List.getElem?_eq_some_iff.1 hi).1; simp at this; omega
      subst hi0
      rw [List.getElem?_append_right (Nat.le_refl _), Nat.sub_self] at hi
      rw [h.len, List.getElem?_append_right (Nat.le_refl _), Nat.sub_self] at hj
      simp at hi hj
      subst hi hj
      have h9 := hr.low
      have hne : ∀ b, H ≤ b → v.v.ownBlock ≠ some b := fun b hb e => by have := hv b e; omega
      refine (h9.ag hg.size fun b hb hl => hoff b (hne b hb.1) hl).mono fun b hb => hF b ⟨by omega, hb.2, hne b hb.1, fun hx => by have := hX b hx; omega⟩
end Go.Proofs.YtddmmmfpdmejbaaGreatDoor
namespace Go.Proofs.YtddmmmfpdmejbaaGreatDoor
open Go.RowKit

/-! assayref15.Reader -/
def rdA (L : Sl) (en : Int) (s : Ps) : Array Value := #[L.v, .int .i64 en, .int .i64 (s.i : Int), .int .i64 s.e, .int .i64 s.bad, .int .i64 (s.op : Int)]
structure Rd (w : World) (g : Nat) (L : Sl) (ts : List Tk) (en : Int) (s : Ps) : Prop where
  row : RowC w g (rdA L en s)
  own : OwnK tkE14 w 0 L.v ts
  low : ∀ b, L.v.ownBlock = some b → b < g
  fit : ts.length ≤ 1099511627776
theorem Rd.next {w w' : World} {g : Nat} {L : Sl} {ts : List Tk} {en : Int} {s s' : Ps} (h : Rd w g L ts en s) (hg : w.grownBy w' (some g)) (hr : RowC w' g (rdA L en s')) : Rd w' g L ts en s' :=
  ⟨hr, h.own.other14 fun b hb => hg.block b (World.ownsRow.lt h.own b hb).2 (fun e => by cases e; have := h.low g hb; omega), h.low, h.fit⟩
theorem Rd.cells {w : World} {g : Nat} {L : Sl} {ts : List Tk} {en : Int} {s : Ps} (h : Rd w g L ts en s) : w.cell? ⟨g, 0, none⟩ = some L.v ∧ w.cell? ⟨g, 1, none⟩ = some (.int .i64 en) ∧ w.cell? ⟨g, 2, none⟩ = some (.int .i64 (s.i : Int)) ∧ w.cell? ⟨g, 3, none⟩ = some (.int .i64 s.e) ∧ w.cell? ⟨g, 4, none⟩ = some (.int .i64 s.bad) ∧ w.cell? ⟨g, 5, none⟩ = some (.int .i64 (s.op : Int)) :=
  ⟨h.row.cell 0, h.row.cell 1, h.row.cell 2, h.row.cell 3, h.row.cell 4, h.row.cell 5⟩
theorem Rd.len {w : World} {g : Nat} {L : Sl} {ts : List Tk} {en : Int} {s : Ps} (h : Rd w g L ts en s) : L.n = ts.length := by
  obtain ⟨x, c, he⟩ := (h.own.isK tkE14_ok).len
  unfold Sl.v at he
  simp only [Value.slice.injEq] at he
  exact he.2.1
theorem grown_set1 (w : World) (g i : Nat) (v : Value) : w.grownBy (w.setCell ⟨g, i, none⟩ v) (some g) := grown_setC w g i [v]
theorem grown_below {w w' : World} (row : Option Nat) (h : Below w.heap.size w w') : w.grownBy w' row := ⟨h.os, h.tape, h.output, h.size, fun k hk _ => h.block k hk⟩
/-- What a method leaves: the reader at s', nothing else turned. -/
def RdP (g : Nat) (L : Sl) (ts : List Tk) (en : Int) (s' : Ps) (w w' : World) : Prop := Rd w' g L ts en s' ∧ w.grownBy w' (some g)
theorem RdP.refl {g : Nat} {L : Sl} {ts : List Tk} {en : Int} {s : Ps} {w : World} (h : Rd w g L ts en s) : RdP g L ts en s w w := ⟨h, grown_below _ (Below.refl _ _)⟩
theorem RdP.trans {g : Nat} {L : Sl} {ts : List Tk} {en : Int} {s s' : Ps} {w w' w2 : World} (h : RdP g L ts en s w w') (k : RdP g L ts en s' w' w2) : RdP g L ts en s' w w2 := ⟨k.1, grown_two h.2 k.2⟩
theorem RdP.set {g : Nat} {L : Sl} {ts : List Tk} {en : Int} {s s' : Ps} {w : World} (h : Rd w g L ts en s) (i : Nat) (v : Value) (he : (rdA L en s).setIfInBounds i v = rdA L en s') : RdP g L ts en s' w (w.setCell ⟨g, i, none⟩ v) :=
  ⟨h.next (grown_set1 w g i v) (by rw [← he]; exact h.row.set i v), grown_set1 w g i v⟩
end Go.Proofs.YtddmmmfpdmejbaaGreatDoor
