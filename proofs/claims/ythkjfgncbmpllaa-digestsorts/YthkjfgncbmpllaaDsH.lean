
import Derived.Test.YthkjfgncbmpllaaDsG
namespace Go.Proofs.Ythkjfgncbmpllaa
open Go.RowKit Go.Sort

/-! Digests stored into a slice of the call's own; a part of it; its end cleared -/
theorem flatD_at (ds : List Dg) (t : Nat) (d : Dg) (h : ds[t / 32]? = some d) : (flatD ds)[t]? = (encD d)[t % 32]? := by
  have hL := encD_len d
  have hd : ∀ u, (encD d)[t % 32]? = some u → (flatD ds)[t]? = some u := fun u hu => by
    have := flatD_get ds (t / 32) d h (t % 32) u hu
    rwa [show t / 32 * 32 + t % 32 = t by omega] at this
  generalize encD d = L at hL hd
  rw [hd L[t % 32] (List.getElem?_eq_getElem (by omega))]
  rw [List.getElem?_eq_getElem (by omega)]
theorem heap_setCells_at (b : Nat) : ∀ (vs : List Value) (o : Nat) (w : World) (cur : Array Value) (t : TypeId) (fr : Nat × Nat), w.heap[b]? = some (.cells cur t fr) → (w.setCells b o vs).heap[b]? = some (.cells (setMany cur o vs) t fr)
  | [], o, w, cur, t, fr, h => h
  | v :: r, o, w, cur, t, fr, h => by
    rw [World.setCells, setMany]
    exact heap_setCells_at b r (o + 1) _ _ t fr (heap_setCell4 w b o v cur t fr h)
theorem setCells_frame (b : Nat) : ∀ (vs : List Value) (o : Nat) (w : World), (w.setCells b o vs).heap.size = w.heap.size ∧ (w.setCells b o vs).os = w.os ∧ (w.setCells b o vs).tape = w.tape ∧ (w.setCells b o vs).output = w.output ∧ ∀ i, i ≠ b → (w.setCells b o vs).heap[i]? = w.heap[i]?
  | [], o, w => ⟨rfl, rfl, rfl, rfl, fun _ _ => rfl⟩
  | v :: r, o, w => by
    rw [World.setCells]
    obtain ⟨h1, h2, h3, h4, h5⟩ := setCells_frame b r (o + 1) (w.setCell ⟨b, o, none⟩ v)
    rw [h1, h2, h3, h4]
    refine ⟨by simp [World.setCell], rfl, rfl, rfl, fun i hi => ?_⟩
    rw [h5 i hi]
    simp only [World.setCell, Array.getElem?_modify]
    rw [if_neg (fun e => hi e.symm)]
theorem grown_setCells (w : World) (b : Nat) (o : Nat) (vs : List Value) : w.grownBy (w.setCells b o vs) (some b) := by
  obtain ⟨h1, h2, h3, h4, h5⟩ := setCells_frame b vs o w
  exact ⟨h2, h3, h4, by omega, fun k hk hne => h5 k (fun e => hne (by rw [e]))⟩
theorem grown_drewN (w : World) (n : Nat) (row : Option Nat) : w.grownBy (w.drewN n) row := ⟨rfl, rfl, rfl, Nat.le_refl _, fun _ _ _ => rfl⟩
theorem grown_trans {w w1 w2 : World} {row : Option Nat} (h : w.grownBy w1 row) (k : w1.grownBy w2 row) : w.grownBy w2 row :=
  ⟨k.os.trans h.os, k.tape.trans h.tape, k.output.trans h.output, Nat.le_trans h.size k.size, fun i hi hne => (k.block i (Nat.lt_of_lt_of_le hi h.size) hne).trans (h.block i hi hne)⟩
theorem get_setMany? (vs : List Value) (s : Nat) (F : Array Value) (t : Nat) (h : t < F.size) : (setMany F s vs)[t]? = if s ≤ t ∧ t < s + vs.length then vs[t - s]? else F[t]? := by
  have hz : t < (setMany F s vs).size := by simpa using h
  have hg := get_setMany vs s F t h
  rw [getElem!_pos _ t hz] at hg
  rw [Array.getElem?_eq_getElem hz, hg]
  by_cases hc : s ≤ t ∧ t < s + vs.length
  · rw [if_pos hc, if_pos hc, getElem!_pos vs (t - s) (by omega), List.getElem?_eq_getElem (by omega)]
  · rw [if_neg hc, if_neg hc, getElem!_pos F t h, Array.getElem?_eq_getElem h]
theorem OwnDs.put {w : World} {B g n c : Nat} {ms : List Dg} (h : OwnDs w B (.slice (some ⟨g, 0, none⟩) n c) ms) (K : Nat) (d : Dg) (hK : K < n) : OwnDs (w.setCells g (K * 32) (dg_secA d).toList) B (.slice (some ⟨g, 0, none⟩) n c) (ms.set K d) := by
  obtain ⟨cur, hn, hb, hg, hle, hm, hs, ht⟩ := h.heap
  subst hn
  have hE := encD_len d
  change OwnDs (w.setCells g (K * 32) (encD d)) _ _ _
  have hF := fun t (e : t / 32 = K) => flatD_at (ms.set K d) t d (by rw [e]; simp [hK])
  refine ⟨by rw [flatD_len], .inr ⟨g, c, _, by rw [List.length_set], hb, heap_setCells_at g _ _ w cur _ _ hg, by rw [List.length_set]; exact hle, hm, by simpa using hs, ?_⟩⟩
  rw [List.length_set]
  apply List.ext_getElem?
  intro t
  by_cases hj : t < ms.length * 32
  · have hjc : t < cur.size := by rw [hs]; have := Nat.mul_le_mul_right 32 hle; omega
    rw [List.getElem?_take_of_lt hj, Array.getElem?_toList, get_setMany? _ _ _ t hjc, hE]
    by_cases e : t / 32 = K
    · rw [hF t e, if_pos (by omega), show t - K * 32 = t % 32 by omega]
    · rw [if_neg (by omega)]
      have h1 : t / 32 < ms.length := by omega
      have e1 := flatD_at (ms.set K d) t ms[t / 32] (by rw [List.getElem?_set_ne (fun x => e x.symm)]; exact List.getElem?_eq_getElem h1)
      have e2 := flatD_at ms t ms[t / 32] (List.getElem?_eq_getElem h1)
      rw [e1, ← e2, ← ht, List.getElem?_take_of_lt hj, Array.getElem?_toList]
  · rw [List.getElem?_take_eq_none (by omega), List.getElem?_eq_none (by rw [flatD_len, List.length_set]; omega)]
theorem flatD_take : ∀ (ms : List Dg) (K : Nat), flatD (ms.take K) = (flatD ms).take (K * 32)
  | [], K => by simp [flatD]
  | d :: r, 0 => by simp [flatD]
  | d :: r, K + 1 => by
    have hl : (dg_secA d).toList.length = 32 := by simp
    rw [List.take_succ_cons, flatD, flatD, flatD_take r K, List.take_append, hl, List.take_of_length_le (l := (dg_secA d).toList) (by omega), show (K + 1) * 32 - 32 = K * 32 by omega]
theorem OwnDs.cut {w : World} {B g n c : Nat} {ms : List Dg} (h : OwnDs w B (.slice (some ⟨g, 0, none⟩) n c) ms) (K : Nat) (hK : K ≤ n) : OwnDs w B (.slice (some ⟨g, 0, none⟩) K c) (ms.take K) := by
  obtain ⟨cur, hn, hb, hg, hle, hm, hs, ht⟩ := h.heap
  have hl : (ms.take K).length = K := by rw [List.length_take]; omega
  refine ⟨by rw [flatD_len], .inr ⟨g, c, cur, by rw [hl], hb, hg, by omega, hm, hs, ?_⟩⟩
  rw [flatD_take, ← ht, hl, List.take_take]
  congr 1
  have := Nat.mul_le_mul_right 32 hK
  omega
theorem OwnDs.past {w : World} {B g n c : Nat} {ms : List Dg} (h : OwnDs w B (.slice (some ⟨g, 0, none⟩) n c) ms) (vs : List Value) : OwnDs (w.setCells g (n * 32) vs) B (.slice (some ⟨g, 0, none⟩) n c) ms := by
  obtain ⟨cur, hn, hb, hg, hle, hm, hs, ht⟩ := h.heap
  subst hn
  refine ⟨by rw [flatD_len], .inr ⟨g, c, _, rfl, hb, heap_setCells_at g _ _ w cur _ _ hg, hle, hm, by simpa using hs, ?_⟩⟩
  apply List.ext_getElem?
  intro t
  by_cases hj : t < ms.length * 32
  · have hjc : t < cur.size := by rw [hs]; have := Nat.mul_le_mul_right 32 hle; omega
    rw [List.getElem?_take_of_lt hj, Array.getElem?_toList, get_setMany? _ _ _ t hjc, if_neg (by omega), ← ht, List.getElem?_take_of_lt hj, Array.getElem?_toList]
  · rw [List.getElem?_take_eq_none (by omega), List.getElem?_eq_none (by rw [flatD_len]; omega)]
theorem OwnDs.there {w : World} {B g n c : Nat} {ms : List Dg} (h : OwnDs w B (.slice (some ⟨g, 0, none⟩) n c) ms) (o m : Nat) (hm : o + m ≤ n * 32) : w.there g o m := by
  obtain ⟨cur, hn, hb, hg, hle, hmx, hs, ht⟩ := h.heap
  intro j hj
  have hjc : o + j < cur.size := by rw [hs]; have := Nat.mul_le_mul_right 32 hle; omega
  refine ⟨?_, by simp [World.frozen?, hg]⟩
  simp [World.cell?, hg, hjc]
theorem OwnDs.store {w : World} {B g n c : Nat} {ms : List Dg} (h : OwnDs w B (.slice (some ⟨g, 0, none⟩) n c) ms) (K : Nat) (d : Dg) (hK : K < n) : (dg_secStore (.pointer (some ⟨g, K * 32, none⟩)) (.agg (dg_secA d))).run Try.prog w = .ok .skip (w.setCells g (K * 32) (dg_secA d).toList) := by
  have ht := h.there (K * 32) 32 (by have := Nat.mul_le_mul_right 32 (show K + 1 ≤ n from hK); omega)
  simp only [dg_secStore, Sem.run_bind]
  rw [run_storeAt_mid w g (K * 32) 23 (dg_secA d) (by rw [dg_secA_size]; exact ht) (by rw [size23, dg_secA_size]) (dg_secA_one d)]
  rfl
theorem OwnDs.clear {w : World} {B g n c : Nat} {ms : List Dg} (h : OwnDs w B (.slice (some ⟨g, 0, none⟩) n c) ms) (K r d : Nat) (hK : K + r = n) (hr : 0 < r) : ∃ vs, ∀ ty, (Builtin.clear_ #[31] ty #[.slice (some ⟨g, K * 32, none⟩) r d]).run Try.prog w = .ok (.tuple #[]) (w.setCells g (K * 32) vs) := by
  have hzl : ∀ n, (Builtin.zeroCells (dg_secA dg_secZ) n).toList.length = n * 32 := fun n => by simp [Builtin.zeroCells]
  have hz1 : ∀ n, ∀ v ∈ (Builtin.zeroCells (dg_secA dg_secZ) n).toList, v.oneCell' = true := fun n v hv => by
    simp only [Builtin.zeroCells, Array.toList_map, List.mem_map] at hv
    obtain ⟨i, -, rfl⟩ := hv
    have hi : i % (dg_secA dg_secZ).size < (dg_secA dg_secZ).size := Nat.mod_lt _ (by rw [dg_secA_size]; omega)
    rw [getElem!_pos (dg_secA dg_secZ) (i % (dg_secA dg_secZ).size) hi]
    exact Array.all_eq_true_iff_forall_mem.1 (dg_secA_one dg_secZ) _ (Array.getElem_mem hi)
  obtain ⟨i, hi, hzz⟩ := Option.map_eq_some_iff.1 infoDg
  simp only [Prod.mk.injEq] at hzz
  obtain ⟨hz, hs, hby⟩ := hzz
  have ht := h.there (K * 32) (r * 32) (by have : K * 32 + r * 32 = n * 32 := by rw [← hK, Nat.add_mul]
                                           omega)
  refine ⟨(Builtin.zeroCells (dg_secA dg_secZ) r).toList, fun ty => ?_⟩
  have hst := run_storeCells_cells (P := Try.prog) g (K * 32) (Builtin.zeroCells (dg_secA dg_secZ) r).toList 0 w (fun j hj => by simpa using (ht j (by rw [hzl] at hj; exact hj)).1) (fun j hj => by simpa using (ht j (by rw [hzl] at hj; exact hj)).2) (hz1 r)
  simp only [Nat.add_zero] at hst
  obtain ⟨m, rfl⟩ : ∃ m, r = m + 1 := ⟨r - 1, by omega⟩
  have hv : ∀ W : World, (zeroValue 23).run Try.prog W = .ok (.agg (dg_secA dg_secZ)) W := fun W => by simp [zeroValue, typeInfo, hi, hz]
  have hc : (Value.agg (dg_secA dg_secZ)).cells = dg_secA dg_secZ := rfl
  simp only [Builtin.clear_]
  simp [hv, hc, hst, run_underlying Try.underlying31]
/-! What stays of equal neighbours -/
theorem SortedTo.self {ts : List Dg} (h : (nums ts).Pairwise (· < ·)) : SortedTo ts ts := ⟨h, fun _ => Iff.rfl⟩
theorem nums_take (ts : List Dg) (k : Nat) : nums (ts.take k) = (nums ts).take k := by simp [nums, List.map_take]
theorem take_snoc (ts : List Dg) (k : Nat) (d : Dg) (h : ts[k]? = some d) : ts.take (k + 1) = ts.take k ++ [d] := by
  rw [List.take_add_one, h]; rfl
theorem le_of_sorted {ts : List Dg} (hs : (nums ts).Pairwise (· ≤ ·)) (i j : Nat) (x y : Dg) (hi : ts[i]? = some x) (hj : ts[j]? = some y) (hij : i ≤ j) : dN x ≤ dN y := by
  rcases Nat.eq_or_lt_of_le hij with rfl | hlt
  · rw [hi] at hj; cases hj; exact Nat.le_refl _
  · have hi' := (List.getElem?_eq_some_iff.1 (nums_get ts i x hi))
    have hj' := (List.getElem?_eq_some_iff.1 (nums_get ts j y hj))
    obtain ⟨h1, e1⟩ := hi'
    obtain ⟨h2, e2⟩ := hj'
    have := (List.pairwise_iff_getElem.1 hs) i j h1 h2 hlt
    rw [e1, e2] at this
    exact this
/-- One more, equal to the one before it. -/
theorem SortedTo.same {ts rs : List Dg} {m : Nat} {x y : Dg} (h : SortedTo (ts.take m) rs) (hm : 0 < m) (hx : ts[m]? = some x) (hy : ts[m - 1]? = some y) (he : dN x = dN y) : SortedTo (ts.take (m + 1)) rs := by
  refine ⟨h.1, fun n => ?_⟩
  rw [h.2, take_snoc ts m x hx, nums_snoc, List.mem_append, List.mem_singleton]
  constructor
  · exact .inl
  · rintro (h1 | rfl)
    · exact h1
    · rw [he]
      have : (ts.take m)[m - 1]? = some y := by rw [List.getElem?_take, if_pos (by omega)]; exact hy
      exact List.mem_of_getElem? (nums_get _ _ y this)
/-- One more, another than the one before it. -/
theorem SortedTo.more {ts rs : List Dg} {m : Nat} {x y : Dg} (h : SortedTo (ts.take m) rs) (hs : (nums ts).Pairwise (· ≤ ·)) (hm : 0 < m) (hx : ts[m]? = some x) (hy : ts[m - 1]? = some y) (he : ¬ dN x = dN y) : SortedTo (ts.take (m + 1)) (rs ++ [x]) := by
  have hlt : dN y < dN x := by
    have := le_of_sorted hs (m - 1) m y x hy hx (by omega)
    omega
  constructor
  · rw [nums_snoc, List.pairwise_append]
    refine ⟨h.1, by simp, fun a ha b hb => ?_⟩
    simp only [List.mem_singleton] at hb
    subst hb
    rw [h.2] at ha
    obtain ⟨j, d, hj, hd, rfl⟩ := mem_nums ha
    rw [List.length_take] at hj
    rw [List.getElem?_take, if_pos (by omega)] at hd
    have := le_of_sorted hs j (m - 1) d y hd hy (by omega)
    omega
  · intro n
    rw [nums_snoc, take_snoc ts m x hx, nums_snoc, List.mem_append, List.mem_append, h.2]
theorem put_mid (rs ts : List Dg) (K : Nat) (x : Dg) (hK : rs.length = K) (hl : K < ts.length) : (rs ++ ts.drop K).set K x = (rs ++ [x]) ++ ts.drop (K + 1) := by
  subst hK
  rw [List.set_append_right _ _ (Nat.le_refl _), Nat.sub_self, List.drop_eq_getElem_cons hl, List.set_cons_zero]
  simp
end Go.Proofs.Ythkjfgncbmpllaa
