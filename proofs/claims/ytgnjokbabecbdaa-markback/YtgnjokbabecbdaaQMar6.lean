import Derived.Test.YtgnjokbabecbdaaQMar5
import Derived.Test.YtgnjokbabecbdaaQBurM
namespace Go.Proofs.Ytgnjokbabecbdaa
open Go.RowKit

/-! MarkBack: what is told -/
theorem st_comm {s : Sc} {j : List Sc} {n : Int} (h : mComm s j n = true) : mStK s j n = 2 ∧ mStL s j n = stA s j := by
  have h' := h
  unfold mComm at h'
  simp only [Bool.and_eq_true, Bool.not_eq_true'] at h'
  unfold mStK mStL
  rw [h, h'.1, h'.2.1]
  exact ⟨rfl, rfl⟩
theorem st_not {s : Sc} {j : List Sc} {n : Int} (h : mComm s j n = false) : mStK s j n ≠ 2 ∧ mStL s j n = [] := by
  unfold mStK mStL
  rw [h]
  refine ⟨?_, rfl⟩
  cases geoOk n <;> cases secEq s secZ <;> simp
theorem eqW_map {l m : List Wr} (h : eqW l m) : l.map kW = m.map kW := by
  apply List.ext_getElem?
  intro i
  simp only [List.getElem?_map]
  by_cases hi : i < l.length
  · have hi2 : i < m.length := by rw [← h.1]; exact hi
    obtain ⟨e1, e2⟩ := atW_get (List.getElem?_eq_getElem hi)
    obtain ⟨f1, f2⟩ := atW_get (List.getElem?_eq_getElem hi2)
    obtain ⟨g1, g2⟩ := h.2 i hi
    rw [List.getElem?_eq_getElem hi, List.getElem?_eq_getElem hi2]
    simp only [Option.map_some, kW]
    rw [← e1, ← e2, ← f1, ← f2, g1, g2]
  · have hi2 : ¬ i < m.length := by rw [← h.1]; exact hi
    rw [List.getElem?_eq_none (by omega), List.getElem?_eq_none (by omega)]
theorem put_no {l : List Wr} {n : Int} (h : mPutE l n ≠ 0) : mPutS l n = secZ ∧ (mPutE l n = 22 ∨ mPutE l n = 24) := by
  unfold mPutE at h ⊢
  unfold mPutS
  cases hg : geoOk n <;> rw [hg] at h <;> cases hb : batB n l <;> rw [hb] at h <;> simp at h ⊢
theorem put_yes {l : List Wr} {n : Int} (h : mPutE l n = 0) : geoOk n = true ∧ batB n l = true ∧ mPutS l n = marS l := by
  unfold mPutE at h
  unfold mPutS
  cases hg : geoOk n <;> rw [hg] at h <;> cases hb : batB n l <;> rw [hb] at h <;> simp at h ⊢
theorem geo_le {n : Int} (h : geoOk n = true) : n ≤ 1024 := by
  unfold geoOk at h
  simp at h
  omega
theorem pb9_in {a : Int} {m i : Nat} (h : PB9 a m i = true) : a.toNat + i < 512 := by
  unfold PB9 at h
  simp only [Bool.and_eq_true, decide_eq_true_eq] at h
  omega
/-- The journal behind a batch. -/
def jrn (l : List Wr) : List Sc := l.map (·.2)
theorem jrn_get {l : List Wr} {i : Nat} (h : i < l.length) : (jrn l)[i]? = some (dtW l i) := by
  unfold jrn
  rw [List.getElem?_map, List.getElem?_eq_getElem h, (atW_get (List.getElem?_eq_getElem h)).2]
  rfl
theorem jrn_is (l : List Wr) (t : List Sc) (i : Nat) (h : i < l.length) : i < (jrn l ++ t).length ∧ kS ((jrn l ++ t).getD i secZ) = kS (dtW l i) := by
  have hl : (jrn l).length = l.length := by unfold jrn; simp
  refine ⟨by rw [List.length_append]; omega, ?_⟩
  rw [List.getD_eq_getElem?_getD, List.getElem?_append_left (by omega), jrn_get h]
  rfl
theorem jrn_told {l : List Wr} {n : Int} (h : mPutE l n = 0) (t : List Sc) : mStK (marS l) (jrn l ++ t) n = 2 ∧ (mStL (marS l) (jrn l ++ t) n).map kW = l.map kW ∧ (mStL (marS l) (jrn l ++ t) n).length = l.length ∧ 1 ≤ l.length ∧ l.length ≤ 8 := by
  obtain ⟨hg, hb, -⟩ := put_yes h
  have hn := geo_le hg
  have hj := jrn_is l t
  obtain ⟨e1, e2⟩ := st_comm (comm_mark hg hn hb _ hj)
  have e3 := stA_mark hn hb _ hj
  rw [e1, e2]
  exact ⟨rfl, eqW_map e3, e3.1, bat_len hb⟩
/-- Bits turned in the mark. -/
theorem back_mark {l : List Wr} {n : Int} (h : mPutE l n = 0) (a : Int) (m : Nat) : mComm (turnS (marS l) (PB9 a m) a.toNat 32) (jrn l) n = !anyP (PB9 a m) 32 := by
  obtain ⟨hg, hb, -⟩ := put_yes h
  cases ha : anyP (PB9 a m) 32
  · rw [turnS_none _ _ _ _ ha]
    have := comm_mark hg (geo_le hg) hb (jrn l) (fun i hi => by have := jrn_is l [] i hi; rwa [List.append_nil] at this)
    exact this
  · exact turn_mark _ _ (fun i hi => pb9_in hi) ha _ _
theorem stA_dt {l : List Wr} {n : Int} (hb : batB n l = true) (j : List Sc) (i : Nat) (hi : i < l.length) (hj : i < j.length) : (stA (marS l) j).length = l.length ∧ dtW (stA (marS l) j) i = j.getD i secZ := by
  have hl := bat_len hb
  have h8 : stN8 (marS l) = l.length := by
    unfold stN8
    rw [marS_2]
    have : (UInt8.ofNat l.length).toNat = l.length := by simp; omega
    rw [this]; omega
  unfold stA
  rw [h8]
  refine ⟨by simp, ?_⟩
  rw [(atW_get (stL_get (marS l) j l.length i hi)).2]
  unfold stW
  rw [if_pos hj]
/-- Bits turned in one of the sectors. -/
theorem back_sec {l : List Wr} {n : Int} (h : mPutE l n = 0) (k : Nat) (hk : k < l.length) (a : Int) (m : Nat) : mComm (marS l) ((jrn l).set k (turnS (dtW l k) (PB9 a m) a.toNat 32)) n = !anyP (PB9 a m) 32 := by
  obtain ⟨hg, hb, -⟩ := put_yes h
  have hl : (jrn l).length = l.length := by unfold jrn; simp
  have hget : ∀ i, i < l.length → ∀ d, ((jrn l).set k d).getD i secZ = if i = k then d else dtW l i := fun i hi d => by
    rw [List.getD_eq_getElem?_getD, List.getElem?_set]
    by_cases e : k = i
    · subst e
      rw [if_pos rfl, if_pos (by omega), if_pos rfl]; rfl
    · rw [if_neg e, if_neg (fun x => e x.symm), jrn_get hi]; rfl
  cases ha : anyP (PB9 a m) 32
  · rw [turnS_none _ _ _ _ ha]
    refine comm_mark hg (geo_le hg) hb _ (fun i hi => ⟨by rw [List.length_set]; omega, ?_⟩)
    rw [hget i hi]
    by_cases e : i = k
    · subst e; rw [if_pos rfl]
    · rw [if_neg e]
  · cases hc : mComm (marS l) ((jrn l).set k (turnS (dtW l k) (PB9 a m) a.toNat 32)) n
    · rfl
    · exfalso
      unfold mComm at hc
      simp only [Bool.and_eq_true] at hc
      have h2 := hc.2.2.2
      rw [secEq_dec, decide_eq_true_iff] at h2
      have h3 := sum_of_mark h2
      have hlen : ((jrn l).set k (turnS (dtW l k) (PB9 a m) a.toNat 32)).length = l.length := by rw [List.length_set, hl]
      refine turn_sum9 (m := stA (marS l) ((jrn l).set k (turnS (dtW l k) (PB9 a m) a.toNat 32))) k hk (stA_dt hb _ k hk (by omega)).1.symm (PB9 a m) a.toNat (fun i hi => pb9_in hi) ha (fun i hi q hq => ?_) h3.symm
      rw [(stA_dt hb _ i hi (by omega)).2, hget i hi]
      by_cases e : i = k
      · rw [if_pos e, if_pos e]
      · rw [if_neg e, if_neg e]
end Go.Proofs.Ytgnjokbabecbdaa
