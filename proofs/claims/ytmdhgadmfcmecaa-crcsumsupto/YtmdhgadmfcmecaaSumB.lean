
import Derived.Test.YtmdhgadmfcmecaaSumA
namespace Go.Proofs.Ytmdhgadmfcmecaa
open Go.RowKit

/-- While the copies are looked at, one by one. -/
structure Inv2 (X : World) (ls : List (List UInt8)) (k : Nat) (v : Value) (us : List Value) (wr : World) : Prop where
  below : Below X.heap.size X wr
  own : OwnV wr X.heap.size v us
  len : us.length = ls.length
  full : ∀ i, k ≤ i → i < ls.length → ∃ u, us[i]? = some u ∧ Full X.heap.size wr u (ls[i]?.getD [])
  apart : us.Pairwise fun a b => a.ownBlock ≠ b.ownBlock
theorem Inv1.all {X : World} {ls : List (List UInt8)} {v : Value} {us : List Value} {wr : World} (h : Inv1 X ls ls.length v us wr) : Inv2 X ls 0 v us wr := ⟨h.below, h.own, h.len, fun i _ hi => h.full i hi, h.apart⟩
theorem Inv2.kept {X : World} {ls : List (List UInt8)} {k : Nat} {v : Value} {us : List Value} {wr w' : World} (h : Inv2 X ls k v us wr) (hb : Below wr.heap.size wr w') : Inv2 X ls k v us w' :=
  ⟨h.below.trans (hb.mono h.below.size), h.own.keep hb, h.len, fun i h0 hi => by obtain ⟨u, h1, h2⟩ := h.full i h0 hi; exact ⟨u, h1, h2.kept hb⟩, h.apart⟩
/-- The copy that is looked at. -/
theorem Inv2.this {X : World} {ls : List (List UInt8)} {k : Nat} {v : Value} {us : List Value} {wr : World} (h : Inv2 X ls k v us wr) (hk : k < ls.length) :
    ∃ g c gv cv, us[k]? = some (.slice (some ⟨g, 0, none⟩) (ls[k]).length c) ∧ v = .slice (some ⟨gv, 0, none⟩) ls.length cv ∧ wr.cell? ⟨gv, k, none⟩ = some (.slice (some ⟨g, 0, none⟩) (ls[k]).length c) ∧ gv < wr.heap.size ∧
      OwnB wr X.heap.size (.slice (some ⟨g, 0, none⟩) ((ls[k]) ++ [165]).length c) ((ls[k]) ++ [165]) ∧ (ls[k]).length + 1 ≤ c ∧ X.heap.size ≤ g ∧ g < wr.heap.size ∧ gv ≠ g := by
  obtain ⟨u, h1, h2⟩ := h.full k (Nat.le_refl _) hk
  have e : ls[k]?.getD [] = ls[k] := by simp [hk]
  rw [e] at h2
  have hne := h2.own_ne h.own
  obtain ⟨g, c, rfl, h3⟩ := h2
  obtain ⟨gv, cv, rfl, h4⟩ := h.own.cell k _ h1
  have h5 := World.ownsRow.lt h3 g rfl
  obtain ⟨g', c', e', _, hle, _⟩ := h3.form (by simp)
  simp only [Value.slice.injEq, true_and] at e'
  obtain ⟨_, rfl⟩ := e'
  refine ⟨g, c, gv, cv, h1, by rw [h.len], h4, World.block_lt_of_cell? wr _ h4, h3, by simpa using hle, h5.1, h5.2, fun e => ?_⟩
  subst e
  exact hne rfl
/-- One copy has been written over. -/
theorem Inv2.next {X : World} {ls : List (List UInt8)} {k g : Nat} {v u : Value} {us : List Value} {wr w' : World} (h : Inv2 X ls k v us wr) (hu : us[k]? = some u) (hg : u.ownBlock = some g) (hB : X.heap.size ≤ g) (hv : v.ownBlock ≠ some g) (hw : wr.grownBy w' (some g)) : Inv2 X ls (k + 1) v us w' := by
  refine ⟨⟨hw.os.trans h.below.os, hw.tape.trans h.below.tape, hw.output.trans h.below.output, Nat.le_trans h.below.size hw.size, fun j hj => ?_⟩, World.ownsRow.kept h.own hw (.inr hv), h.len, fun i h0 hi => ?_, h.apart⟩
  · rw [hw.block j (Nat.lt_of_lt_of_le hj h.below.size) (by simp; omega)]; exact h.below.block j hj
  · obtain ⟨z, h1, h2⟩ := h.full i (by omega) hi
    refine ⟨z, h1, h2.grown hw fun e => ?_⟩
    have hp := List.pairwise_iff_getElem.1 h.apart k i (List.getElem?_eq_some_iff.1 hu).1 (List.getElem?_eq_some_iff.1 h1).1 (by omega)
    have e1 := (List.getElem?_eq_some_iff.1 hu).2
    have e2 := (List.getElem?_eq_some_iff.1 h1).2
    rw [e1, e2, hg, e] at hp
    exact hp rfl
/-- The bytes of a copy are written over: nothing else turns. -/
structure Inv3 (W : World) (g n c : Nat) (wr : World) : Prop where
  grown : W.grownBy wr (some g)
  size : wr.heap.size = W.heap.size
  isb : ∃ f, IsB wr (.slice (some ⟨g, 0, none⟩) n c) (subL f 0 n)
  soft : ∀ j, wr.frozen? ⟨g, j, none⟩ = false
theorem subL_of' (l : List UInt8) : subL (fun i => l[i]?.getD 0) 0 l.length = l := by
  apply List.ext_getElem
  · simp
  · intro i h1 h2
    rw [subL_get]; simp [h2]
theorem Inv3.start {W : World} {B g c : Nat} {l : List UInt8} (h : OwnB W B (.slice (some ⟨g, 0, none⟩) l.length c) l) : Inv3 W g l.length c W :=
  ⟨World.grownBy.refl W _, rfl, ⟨fun i => l[i]?.getD 0, by rw [subL_of']; exact h.isB⟩, fun j => World.ownsRow.frozenAt h j⟩
theorem Inv3.cell {W : World} {g n c : Nat} {wr : World} (h : Inv3 W g n c wr) (j : Nat) (hj : j < n) : ∃ b : UInt8, wr.cell? ⟨g, j, none⟩ = some (.int .u8 (b.toNat : Int)) := by
  obtain ⟨f, hf⟩ := h.isb
  rcases hf with ⟨h, _⟩ | ⟨y, d, he, hc⟩
  · cases h
  · simp only [Value.slice.injEq, Option.some.injEq] at he
    obtain ⟨rfl, _, rfl⟩ := he
    have h1 := hc j (by simpa using hj)
    rw [addr_add, Nat.zero_add] at h1
    exact ⟨_, h1⟩
theorem Inv3.put {W : World} {g n c : Nat} {wr : World} (h : Inv3 W g n c wr) (j : Nat) (hj : j < n) : Inv3 W g n c (wr.setCell ⟨g, j, none⟩ (.int .u8 7)) := by
  obtain ⟨f, hf⟩ := h.isb
  have h1 := hf.set j 7 7 hj rfl
  rw [Nat.zero_add] at h1
  refine ⟨⟨h.grown.os, h.grown.tape, h.grown.output, by rw [show (wr.setCell ⟨g, j, none⟩ (.int .u8 7)).heap.size = wr.heap.size by simp [World.setCell]]; exact h.grown.size, fun k hk hne => ?_⟩, by rw [← h.size]; simp [World.setCell], ⟨_, h1⟩, fun i => by rw [World.frozen?_setCell]; exact h.soft i⟩
  have hkg : k ≠ g := fun e => hne (by rw [e])
  rw [← h.grown.block k hk hne]
  unfold World.setCell
  simp only [Array.getElem?_modify]
  rw [if_neg (fun e => hkg e.symm)]
theorem Inv3.part {W : World} {g n c : Nat} {wr : World} (h : Inv3 W g (n + 1) c wr) : ∃ L : List UInt8, L.length = n ∧ IsB wr (.slice (some ⟨g, 0, none⟩) n c) L := by
  obtain ⟨f, hf⟩ := h.isb
  refine ⟨subL f 0 n, by simp, ?_⟩
  rcases hf with ⟨h, _⟩ | ⟨y, d, he, hc⟩
  · cases h
  · simp only [Value.slice.injEq, Option.some.injEq] at he
    obtain ⟨rfl, _, rfl⟩ := he
    refine .inr ⟨⟨g, 0, none⟩, c, by simp, fun i hi => ?_⟩
    have hin : i < n := by simpa using hi
    have h1 := hc i (by simp; omega)
    rw [subL_get] at h1 ⊢
    exact h1
theorem zero_unsealed : secEq (sealS secZ) secZ = false := by decide +kernel
end Go.Proofs.Ytmdhgadmfcmecaa
