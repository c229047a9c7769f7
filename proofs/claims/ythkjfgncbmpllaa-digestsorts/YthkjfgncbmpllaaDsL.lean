
import Derived.Test.YthkjfgncbmpllaaDsR
namespace Go.Proofs.Ythkjfgncbmpllaa
open Go.RowKit

/-! Literals of slices of digests -/
theorem foldl_setO (o : Nat) : ∀ (l : List Value) (k : Nat) (base : Array Value) (i : Nat), ((l.zipIdx k).foldl (fun (cs : Array Value) p => cs.setIfInBounds (o + p.2) p.1) base)[i]? = if o + k ≤ i ∧ i < o + k + l.length ∧ i < base.size then l[i - (o + k)]? else base[i]?
  | [], k, base, i => by simp; omega
  | x :: l, k, base, i => by
    rw [List.zipIdx_cons, List.foldl_cons, foldl_setO o l (k + 1) _ i]
    simp only [Array.size_setIfInBounds, List.length_cons]
    by_cases h1 : o + (k + 1) ≤ i ∧ i < o + (k + 1) + l.length ∧ i < base.size
    · rw [if_pos h1, if_pos (by omega), show i - (o + k) = (i - (o + (k + 1))) + 1 by omega, List.getElem?_cons_succ]
    · rw [if_neg h1]
      by_cases h2 : i = o + k
      · subst h2
        by_cases h3 : o + k < base.size
        · rw [if_pos (by omega), Nat.sub_self]; simp [h3]
        · rw [if_neg (by omega)]; simp [h3]
      · rw [if_neg (by omega), Array.getElem?_setIfInBounds_ne (fun e => h2 e.symm)]
theorem foldl_size (o : Nat) : ∀ (l : List Value) (k : Nat) (base : Array Value), ((l.zipIdx k).foldl (fun (cs : Array Value) p => cs.setIfInBounds (o + p.2) p.1) base).size = base.size
  | [], _, _ => rfl
  | x :: l, k, base => by rw [List.zipIdx_cons, List.foldl_cons, foldl_size o l (k + 1)]; simp
/-- The parts of a literal from place i on. -/
def dsPs : List Dg → Nat → List (Nat × Value)
  | [], _ => []
  | d :: r, i => (i, .agg (dg_secA d)) :: dsPs r (i + 1)
theorem fill_ds : ∀ (ds : List Dg) (i : Nat) (base : Array Value), (i + ds.length) * 32 = base.size →
    Instr.fill (fun i => some (i * 32, 32)) base (dsPs ds i) = some (base.toList.take (i * 32) ++ flatD ds).toArray
  | [], i, base, h => by
    simp only [dsPs, flatD, List.append_nil, Instr.fill]
    rw [List.take_of_length_le (by simp at h ⊢; omega)]
  | d :: r, i, base, h => by
    have hlen : (i + (r.length + 1)) * 32 = base.size := by simpa using h
    have hfl : flatD (d :: r) = (dg_secA d).toList ++ flatD r := rfl
    have hC2 := dg_secA_size d
    have hps : dsPs (d :: r) i = (i, .agg (dg_secA d)) :: dsPs r (i + 1) := rfl
    rw [hfl, hps]
    generalize dg_secA d = C at hC2
    have hc : (Value.agg C).cells = C := rfl
    have hz : (C.zipIdx.foldl (fun (cs : Array Value) (x : Value × Nat) => cs.setIfInBounds (i * 32 + x.2) x.1) base) = ((C.toList.zipIdx 0).foldl (fun (cs : Array Value) p => cs.setIfInBounds (i * 32 + p.2) p.1) base) := by
      rw [← Array.foldl_toList, Array.toList_zipIdx]
    have hsz := foldl_size (i * 32) C.toList 0 base
    have hget := fun j => foldl_setO (i * 32) C.toList 0 base j
    have hl32 : C.toList.length = 32 := by simpa using hC2
    unfold Instr.fill
    simp only [hc, hC2]
    rw [if_neg (by simp; omega), hz]
    generalize (C.toList.zipIdx 0).foldl (fun (cs : Array Value) p => cs.setIfInBounds (i * 32 + p.2) p.1) base = B at hsz hget
    rw [fill_ds r (i + 1) B (by rw [hsz]; omega)]
    have e : B.toList.take ((i + 1) * 32) = base.toList.take (i * 32) ++ C.toList := by
      apply List.ext_getElem?
      intro j
      have htk : (base.toList.take (i * 32)).length = i * 32 := by simp; omega
      rw [List.getElem?_take]
      by_cases hlt : j < (i + 1) * 32
      · rw [if_pos hlt, Array.getElem?_toList, hget j]
        by_cases h1 : j < i * 32
        · rw [if_neg (by omega), List.getElem?_append_left (by omega), List.getElem?_take, if_pos h1, Array.getElem?_toList]
        · rw [if_pos (by omega), List.getElem?_append_right (by omega), htk, Nat.add_zero]
      · rw [if_neg hlt, List.getElem?_eq_none (by rw [List.length_append, htk, hl32]; omega)]
    rw [e, List.append_assoc]
theorem OwnDs.lit (w : World) (ds : List Dg) (h : ds.length ≤ maxLen) : OwnDs (w.alloc (.cells (flatD ds).toArray 23)) w.heap.size (.slice (some ⟨w.heap.size, 0, none⟩) ds.length ds.length) ds :=
  ⟨flatD_len ds, .inr ⟨w.heap.size, ds.length, (flatD ds).toArray, rfl, Nat.le_refl _, heap_alloc_last w _, Nat.le_refl _, h, by simp [flatD_len], by rw [List.toList_toArray, List.take_of_length_le (by rw [flatD_len]; omega)]⟩⟩
theorem run_buildDs (w : World) (ds : List Dg) (h0 : 0 < ds.length) (h1 : ds.length ≤ 1000) : (Instr.buildSlice 31 ds.length (dsPs ds 0).toArray).run Try.prog w = .ok (.slice (some ⟨w.heap.size, 0, none⟩) ds.length ds.length) (w.alloc (.cells (flatD ds).toArray 23)) := by
  obtain ⟨i, hi, hzz⟩ := Option.map_eq_some_iff.1 infoDg
  simp only [Prod.mk.injEq] at hzz
  obtain ⟨hz, hs, hby⟩ := hzz
  refine run_buildSlice (P := Try.prog) w 31 23 ds.length _ _ i _ Try.underlying31 hi hz (by rw [hs]; omega) (by rw [hs]; omega) ?_
  rw [hs, List.toList_toArray, fill_ds ds 0 _ (by simp)]
  simp
end Go.Proofs.Ythkjfgncbmpllaa
