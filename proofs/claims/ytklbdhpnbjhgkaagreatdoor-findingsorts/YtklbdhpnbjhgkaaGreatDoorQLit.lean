import Derived.Test.YtklbdhpnbjhgkaaGreatDoorQNum
namespace Go.Proofs.YtklbdhpnbjhgkaaGreatDoor
open Go.RowKit

/-! Literals of slices, whatever their elements -/
theorem foldl_setOK (o : Nat) : ∀ (l : List Value) (k : Nat) (base : Array Value) (i : Nat), ((l.zipIdx k).foldl (fun (cs : Array Value) p => cs.setIfInBounds (o + p.2) p.1) base)[i]? = if o + k ≤ i ∧ i < o + k + l.length ∧ i < base.size then l[i - (o + k)]? else base[i]?
  | [], k, base, i => by simp; omega
  | x :: l, k, base, i => by
    rw [List.zipIdx_cons, List.foldl_cons, foldl_setOK o l (k + 1) _ i]
    simp only [Array.size_setIfInBounds, List.length_cons]
    by_cases h1 : o + (k + 1) ≤ i ∧ i < o + (k + 1) + l.length ∧ i < base.size
    · rw [if_pos h1, if_pos (by omega), show i - (o + k) = (i - (o + (k + 1))) + 1 by omega, List.getElem?_cons_succ]
    · rw [if_neg h1]
      by_cases h2 : i = o + k
      · subst h2
        by_cases h3 : o + k < base.size
        · rw [if_pos (by omega), Nat.sub_self]; simp [h3]
        · rw [if_neg (by omega)]; simp [h3]
      · rw [if_neg (by omega), Array.getElem?_setIfInBounds_ne (fun e => h2 e.symm)]
theorem foldl_sizeK (o : Nat) : ∀ (l : List Value) (k : Nat) (base : Array Value), ((l.zipIdx k).foldl (fun (cs : Array Value) p => cs.setIfInBounds (o + p.2) p.1) base).size = base.size
  | [], _, _ => rfl
  | x :: l, k, base => by rw [List.zipIdx_cons, List.foldl_cons, foldl_sizeK o l (k + 1)]; simp
/-- The parts of a literal from place i on. -/
def psK {α : Type} (E : EK α) : List α → Nat → List (Nat × Value)
  | [], _ => []
  | d :: r, i => (i, .agg (E.enc d).toArray) :: psK E r (i + 1)
theorem fill_psK {α : Type} {E : EK α} (O : E.Ok) : ∀ (ds : List α) (i : Nat) (base : Array Value), i * E.k + ds.length * E.k = base.size →
    Instr.fill (fun i => some (i * E.k, E.k)) base (psK E ds i) = some (base.toList.take (i * E.k) ++ flK E ds).toArray
  | [], i, base, h => by
    simp only [psK, flK, List.append_nil, Instr.fill]
    rw [List.take_of_length_le (by simp at h ⊢; omega)]
  | d :: r, i, base, h => by
    have hlen : i * E.k + (r.length * E.k + E.k) = base.size := by rw [← h, List.length_cons, Nat.succ_mul]
    have hfl : flK E (d :: r) = (E.enc d).toArray.toList ++ flK E r := rfl
    have hC2 : (E.enc d).toArray.size = E.k := by rw [List.size_toArray]; exact O.len d
    have hps : psK E (d :: r) i = (i, .agg (E.enc d).toArray) :: psK E r (i + 1) := rfl
    rw [hfl, hps]
    generalize (E.enc d).toArray = C at hC2
    have hc : (Value.agg C).cells = C := rfl
    have hz : (C.zipIdx.foldl (fun (cs : Array Value) (x : Value × Nat) => cs.setIfInBounds (i * E.k + x.2) x.1) base) = ((C.toList.zipIdx 0).foldl (fun (cs : Array Value) p => cs.setIfInBounds (i * E.k + p.2) p.1) base) := by
      rw [← Array.foldl_toList, Array.toList_zipIdx]
    have hsz := foldl_sizeK (i * E.k) C.toList 0 base
    have hget := fun j => foldl_setOK (i * E.k) C.toList 0 base j
    have hl32 : C.toList.length = E.k := by simpa using hC2
    have hi1 : (i + 1) * E.k = i * E.k + E.k := Nat.succ_mul i E.k
    unfold Instr.fill
    simp only [hc, hC2]
    rw [if_neg (by simp; omega), hz]
    generalize (C.toList.zipIdx 0).foldl (fun (cs : Array Value) p => cs.setIfInBounds (i * E.k + p.2) p.1) base = B at hsz hget
    rw [fill_psK O r (i + 1) B (by rw [hsz, hi1]; omega)]
    have e : B.toList.take ((i + 1) * E.k) = base.toList.take (i * E.k) ++ C.toList := by
      apply List.ext_getElem?
      intro j
      have htk : (base.toList.take (i * E.k)).length = i * E.k := by simp; omega
      rw [List.getElem?_take]
      by_cases hlt : j < (i + 1) * E.k
      · rw [if_pos hlt, Array.getElem?_toList, hget j]
        by_cases h1 : j < i * E.k
        · rw [if_neg (by omega), List.getElem?_append_left (by omega), List.getElem?_take, if_pos h1, Array.getElem?_toList]
        · rw [if_pos (by omega), List.getElem?_append_right (by omega), htk, Nat.add_zero]
      · rw [if_neg hlt, List.getElem?_eq_none (by rw [List.length_append, htk, hl32]; omega)]
    rw [e, List.append_assoc]
theorem run_litK {α : Type} {E : EK α} (O : E.Ok) (w : World) (ds : List α) (h0 : 0 < ds.length) (h1 : ds.length * E.k ≤ 10000) : (Instr.buildSlice E.S ds.length (psK E ds 0).toArray).run Tryz.prog w = .ok (.slice (some ⟨w.heap.size, 0, none⟩) ds.length ds.length) (w.alloc (.cells (flK E ds).toArray E.T)) := by
  obtain ⟨i, hi, hzz⟩ := Option.map_eq_some_iff.1 O.info
  simp only [Prod.mk.injEq] at hzz
  obtain ⟨hz, hs, hby⟩ := hzz
  have hp := O.kp
  have hpos : 0 < ds.length * E.k := Nat.mul_pos h0 hp
  refine run_buildSlice (P := Tryz.prog) w E.S E.T ds.length _ _ i _ O.und hi hz (by rw [hs]; omega) (by rw [hs]; omega) ?_
  rw [hs, List.toList_toArray, fill_psK O ds 0 _ (by simp)]
  simp
end Go.Proofs.YtklbdhpnbjhgkaaGreatDoor
