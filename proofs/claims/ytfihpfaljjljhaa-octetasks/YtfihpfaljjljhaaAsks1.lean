import Derived.Test.YtfihpfaljjljhaaLent
import Derived.Test.YtfihpfaljjljhaaZf
namespace Go.Proofs.Ytfihpfaljjljhaa
open Go.RowKit

/-! What OctetAsks' loops want. -/
/-- The law's memory out of the first world: the sector, the Ask. -/
theorem BW.of {w x : World} {s : Nat → UInt8} {At An To Av : Int} {sl : Value} {l : List UInt8} (hs : IsB w sl l)
    (hb : Below (w.heap.size + 2) ((w.alloc (.cells (secA s) 23)).alloc (.cells #[.int .i64 At, .int .i64 An, .int .i64 To, .int .u32 Av, sl] 30)) x) : BW w s At An To Av sl l x :=
  (BW.start w s At An To Av sl l hs).kept (by simpa using hb)
theorem k_of {w x x' : World} {n : Nat} (h : Below n w x) (hn : n ≤ x.heap.size) (hb : Below x.heap.size x x') : Below n w x' := h.trans (hb.mono hn)
theorem k_mid {w x x' : World} {n m : Nat} (h : Below n w x) (hn : n ≤ m) (hb : Below m x x') : Below n w x' := h.trans (hb.mono hn)
theorem rowB.setCell {w : World} {g i : Nat} {l : List UInt8} {b : UInt8} (h : rowB w g l) (hi : i < l.length) : rowB (w.setCell ⟨g, i, none⟩ (Value.int .u8 (b.toNat : Int))) g (l.set i b) := by
  unfold rowB at *
  rw [heap_setCell_same w g i _ _ _ h]
  congr 2
  apply Array.ext_getElem?
  intro j
  by_cases hj : j < l.length
  · rw [bytesA_get _ j (by simpa using hj)]
    by_cases e : i = j
    · subst e; simp [hi]
    · rw [Array.getElem?_setIfInBounds_ne e, bytesA_get l j hj]; simp [e]
  · rw [Array.getElem?_eq_none (by simp; omega), Array.getElem?_eq_none (by simp; omega)]
theorem rowB.setOther {w : World} {g g' i : Nat} {l : List UInt8} {v : Value} (h : rowB w g l) (hne : g ≠ g') : rowB (w.setCell ⟨g', i, none⟩ v) g l := by
  unfold rowB; rw [heap_setCell_other w _ g v hne]; exact h
theorem rowB.frozen {w : World} {g i : Nat} {l : List UInt8} (h : rowB w g l) : w.frozen? ⟨g, i, none⟩ = false := frozen_of_row w g i _ _ h
theorem rowB.mid {w w1 : World} {g n : Nat} {l : List UInt8} (h : rowB w g l) (hb : Below n w w1) (hn : g < n) : rowB w1 g l := by unfold rowB; rw [hb.block g hn]; exact h
/-- k of the new byte, then what was there. -/
def mixL (k : Nat) (b : UInt8) (l : List UInt8) : List UInt8 := List.replicate k b ++ l.drop k
theorem mixL_length (k : Nat) (b : UInt8) (l : List UInt8) (h : k ≤ l.length) : (mixL k b l).length = l.length := by simp [mixL]; omega
theorem mixL_zero (b : UInt8) (l : List UInt8) : mixL 0 b l = l := by simp [mixL]
theorem mixL_all (b : UInt8) (l : List UInt8) : mixL l.length b l = List.replicate l.length b := by simp [mixL]
theorem mixL_succ (k : Nat) (b : UInt8) (l : List UInt8) (h : k < l.length) : (mixL k b l).set k b = mixL (k + 1) b l := by
  apply List.ext_getElem?
  intro j
  unfold mixL
  rw [List.getElem?_set]
  by_cases e : k = j
  · subst e
    rw [if_pos rfl, if_pos (by simp; omega), List.getElem?_append_left (by simp)]
    simp
  · rw [if_neg e]
    by_cases hj : j < k
    · rw [List.getElem?_append_left (by simpa using hj), List.getElem?_append_left (by simp; omega)]; simp [hj, Nat.lt_succ_of_lt hj]
    · rw [List.getElem?_append_right (by simp; omega), List.getElem?_append_right (by simp; omega)]
      simp only [List.length_replicate, List.getElem?_drop]
      congr 1; omega
/-- An append that must move: into a block of its own. -/
theorem run_grow1 (w : World) (g y c : Nat) (l : List UInt8) (b : UInt8) (ty : TypeId) (h : rowB w g l) (hy : w.cell? ⟨y, 0, none⟩ = some (Value.int .u8 (b.toNat : Int))) (hl : l.length ≤ 64) :
    ∃ v' w', (Builtin.append_ #[28, 28] ty #[.slice (some ⟨g, 0, none⟩) l.length l.length, .slice (some ⟨y, 0, none⟩) 1 c]).run Try.prog w = .ok v' w' ∧ OwnB w' w.heap.size v' (l ++ [b]) ∧ Below w.heap.size w w' := by
  have hO : OwnB w 0 (.slice (some ⟨g, 0, none⟩) l.length l.length) l := ⟨by simp [bytesA], .inr ⟨g, l.length, bytesA l, rfl, Nat.zero_le _, h, Nat.le_refl _, by unfold maxLen; omega, by simp, by
    rw [List.take_of_length_le (by simp)]⟩⟩
  obtain ⟨v', w', hr, h2, _, _⟩ := run_app1 w 0 y c _ l b ty hO hy (by omega) (Nat.zero_le _)
  obtain ⟨i, hi, hzz⟩ := Option.map_eq_some_iff.1 info5
  simp only [Prod.mk.injEq] at hzz
  obtain ⟨hz, hs, hby⟩ := hzz
  have hnc : Builtin.nextslicecap (l.length + 1) l.length ≤ 128 := by
    unfold Builtin.nextslicecap
    split
    · omega
    · rw [if_pos (by omega)]; omega
  have hr2 := run_append_grow_src (P := Try.prog) w 28 28 ty 5 i _ Try.underlying28 hi hz (some ⟨g, 0, none⟩) l.length l.length (bytesA l).toList
    (by rw [hs]; exact run_firstCells_some (P := Try.prog) w.drew 1 l.length _ l.length l.length _ (by simp) (fun j u hu => by
          have hj : j < l.length := by have := (List.getElem?_eq_some_iff.1 hu).1; simpa using this
          rw [Array.getElem?_toList, bytesA_get l j hj] at hu
          have hadd : (⟨g, 0, none⟩ : Addr).add j = ⟨g, j, none⟩ := by unfold Addr.add; split <;> simp_all
          rw [hadd, ← hu]; exact h.cell j hj)) (.slice (some ⟨y, 0, none⟩) 1 c) 1 [Value.int .u8 (b.toNat : Int)] (by
      rw [hs]
      exact Src.ofSlice w Try.underlying28 ⟨y, 0, none⟩ 1 c _ rfl (fun j u hu => by
        rcases j with _ | j
        · simp at hu; subst hu
          have hadd : (⟨y, 0, none⟩ : Addr).add 0 = ⟨y, 0, none⟩ := by unfold Addr.add; split <;> simp_all
          rw [hadd]; exact hy
        · simp at hu) (by simp [Value.oneCell'])) (by omega) (by omega) (by rw [hby]; omega)
  have e := hr.symm.trans hr2
  simp only [Result.ok.injEq] at e
  obtain ⟨e1, e2⟩ := e
  refine ⟨v', w', hr, ?_, by rw [e2]; exact (below_alloc w _).drew⟩
  obtain ⟨h3, ⟨h4, h5⟩ | ⟨g', cap, cur, h4, hb, hg, hle, hm, hsz, ht⟩⟩ := h2
  · simp at h5
  · refine ⟨h3, .inr ⟨g', cap, cur, h4, ?_, hg, hle, hm, hsz, ht⟩⟩
    rw [e1] at h4
    simp only [Value.slice.injEq, Option.some.injEq, Addr.mk.injEq] at h4
    omega
theorem OwnB.cell {w : World} {base g n c : Nat} {l : List UInt8} (h : OwnB w base (.slice (some ⟨g, 0, none⟩) n c) l) (i : Nat) (hi : i < l.length) : w.cell? ⟨g, i, none⟩ = some (Value.int .u8 (l[i].toNat : Int)) := by
  have := h.cells (g := g) rfl i (Value.int .u8 (l[i].toNat : Int)) (by rw [Array.getElem?_toList, bytesA_get l i hi])
  have hadd : (⟨g, 0, none⟩ : Addr).add i = ⟨g, i, none⟩ := by unfold Addr.add; split <;> simp_all
  rwa [hadd] at this
theorem OwnB.mid {w w' : World} {base n : Nat} {v : Value} {l : List UInt8} (h : OwnB w base v l) (hb : Below n w w') (hn : ∀ k, v.ownBlock = some k → k < n) : OwnB w' base v l := by
  obtain ⟨h3, ⟨h4, h5⟩ | ⟨g', cap, cur, h4, hb', hg, hle, hm, hsz, ht⟩⟩ := h
  · exact ⟨h3, .inl ⟨h4, h5⟩⟩
  · exact ⟨h3, .inr ⟨g', cap, cur, h4, hb', by rw [hb.block g' (hn g' (by rw [h4]; rfl))]; exact hg, hle, hm, hsz, ht⟩⟩
theorem OwnB.lt {w : World} {base : Nat} {v : Value} {l : List UInt8} (h : OwnB w base v l) : ∀ k, v.ownBlock = some k → k < w.heap.size := fun k hk => (World.ownsRow.lt h k hk).2
theorem rep_succ (n : Nat) (b : UInt8) : List.replicate n b ++ [b] = List.replicate (n + 1) b := by rw [List.replicate_succ']
end Go.Proofs.Ytfihpfaljjljhaa
