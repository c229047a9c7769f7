
import Derived.Test.YtmbkkdojjfdliaaKel
namespace Go.Proofs.Ytmbkkdojjfdliaa
open Go.RowKit

/-! Literals of slices, of any number of elements of k cells each -/
variable {α : Type} {E : EK α}
theorem blit_size (o : Nat) : ∀ (l : List Value) (k : Nat) (base : Array Value), ((l.zipIdx k).foldl (fun (cs : Array Value) p => cs.setIfInBounds (o + p.2) p.1) base).size = base.size
  | [], _, _ => rfl
  | x :: l, k, base => by rw [List.zipIdx_cons, List.foldl_cons, blit_size o l (k + 1)]; simp
/-- The parts of a literal from place i on. -/
def kPs (E : EK α) : List α → Nat → List (Nat × Value)
  | [], _ => []
  | d :: r, i => (i, .agg (E.enc d).toArray) :: kPs E r (i + 1)
theorem fill_K (O : E.Ok) : ∀ (ds : List α) (i : Nat) (base : Array Value), (i + ds.length) * E.k = base.size →
    Instr.fill (fun i => some (i * E.k, E.k)) base (kPs E ds i) = some (base.toList.take (i * E.k) ++ flK E ds).toArray
  | [], i, base, h => by
    simp only [kPs, flK, List.append_nil, Instr.fill]
    rw [List.take_of_length_le (by simp at h ⊢; omega)]
  | d :: r, i, base, h => by
    have hlen : i * E.k + r.length * E.k + E.k = base.size := by rw [← h, List.length_cons, Nat.add_mul, Nat.add_mul, Nat.one_mul]; omega
    have hfl : flK E (d :: r) = E.enc d ++ flK E r := rfl
    have hl := O.len d
    have hps : kPs E (d :: r) i = (i, .agg (E.enc d).toArray) :: kPs E r (i + 1) := rfl
    rw [hfl, hps]
    generalize E.enc d = C at hl
    have hc : (Value.agg C.toArray).cells = C.toArray := rfl
    have hz : (C.toArray.zipIdx.foldl (fun (cs : Array Value) (x : Value × Nat) => cs.setIfInBounds (i * E.k + x.2) x.1) base) = ((C.zipIdx 0).foldl (fun (cs : Array Value) p => cs.setIfInBounds (i * E.k + p.2) p.1) base) := by
      rw [← Array.foldl_toList, Array.toList_zipIdx]
    have hsz := blit_size (i * E.k) C 0 base
    have hget := fun j => blit_list (i * E.k) C 0 base j
    have hk1 : (i + 1) * E.k = i * E.k + E.k := by rw [Nat.add_mul, Nat.one_mul]
    unfold Instr.fill
    simp only [hc, List.size_toArray, hl]
    rw [if_neg (by simp; omega), hz]
    generalize (C.zipIdx 0).foldl (fun (cs : Array Value) p => cs.setIfInBounds (i * E.k + p.2) p.1) base = B at hsz hget
    rw [fill_K O r (i + 1) B (by rw [hsz, Nat.add_mul, hk1]; omega)]
    have e : B.toList.take ((i + 1) * E.k) = base.toList.take (i * E.k) ++ C := by
      rw [hk1]
      apply List.ext_getElem?
      intro j
      have htk : (base.toList.take (i * E.k)).length = i * E.k := by simp; omega
      rw [List.getElem?_take]
      by_cases hlt : j < i * E.k + E.k
      · rw [if_pos hlt, Array.getElem?_toList, hget j]
        by_cases h1 : j < i * E.k
        · rw [if_neg (by omega), List.getElem?_append_left (by omega), List.getElem?_take, if_pos h1, Array.getElem?_toList]
        · rw [if_pos (by omega), List.getElem?_append_right (by omega), htk, Nat.add_zero]
      · rw [if_neg hlt, List.getElem?_eq_none (by rw [List.length_append, htk, hl]; omega)]
    rw [e, List.append_assoc]
theorem run_litKn (O : E.Ok) (w : World) (ds : List α) (h0 : 0 < ds.length) (h1 : ds.length * E.k ≤ 100000) : (Instr.buildSlice E.S ds.length (kPs E ds 0).toArray).run Try.prog w = .ok (.slice (some ⟨w.heap.size, 0, none⟩) ds.length ds.length) (w.alloc (.cells (flK E ds).toArray E.T)) := by
  obtain ⟨i, hi, hzz⟩ := Option.map_eq_some_iff.1 O.info
  simp only [Prod.mk.injEq] at hzz
  obtain ⟨hz, hs, hby⟩ := hzz
  have hp := Nat.mul_pos h0 O.kp
  refine run_buildSlice (P := Try.prog) w E.S E.T ds.length _ _ i _ O.und hi hz (by rw [hs]; omega) (by rw [hs]; omega) ?_
  rw [hs, List.toList_toArray, fill_K O ds 0 _ (by simp)]
  simp
end Go.Proofs.Ytmbkkdojjfdliaa
