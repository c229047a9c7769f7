
import Derived.Test.YthkjfgncbmpllaaDsF
import Derived.Test.YthkjfgncbmpllaaDigC
import Derived.Test.YthkjfgncbmpllaaDsA
namespace Go.Proofs.Ythkjfgncbmpllaa
open Go.RowKit Go.Sort Go.Shelf

/-! slices.SortFunc of digests of the call's own -/
def encD (d : Dg) : List Value := (dg_secA d).toList
theorem encD_len (d : Dg) : (encD d).length = 32 := by simp [encD]
theorem encD_one (d : Dg) : ∀ v ∈ encD d, v.oneCell' = true := fun u hu => Array.all_eq_true_iff_forall_mem.1 (dg_secA_one d) u (by simpa [encD] using hu)
theorem flatK_list (ds : List Dg) : (flatK encD 32 ds.toArray).toList = flatD ds := by
  apply List.ext_getElem?
  intro t
  by_cases ht : t < ds.length * 32
  · have h1 : t / 32 < ds.length := by omega
    obtain ⟨d, hd0⟩ : ∃ d, ds[t / 32] = d := ⟨_, rfl⟩
    have e1 : ds.toArray[t / 32]! = d := by rw [← hd0]; simp [h1]
    have hL := encD_len d
    have hd : ∀ u, (encD d)[t % 32]? = some u → (flatD ds)[t]? = some u := fun u hu => by
      have := flatD_get ds (t / 32) d (by rw [List.getElem?_eq_getElem h1, hd0]) (t % 32) u hu
      rwa [show t / 32 * 32 + t % 32 = t by omega] at this
    have hs : t < (flatK encD 32 ds.toArray).size := by simpa using ht
    have hg := get_flatK encD 32 ds.toArray t (by simpa using ht)
    rw [e1] at hg
    generalize encD d = L at hL hd hg
    have h2 : t % 32 < L.length := by omega
    rw [hd L[t % 32] (List.getElem?_eq_getElem h2), Array.getElem?_toList, Array.getElem?_eq_getElem hs]
    generalize flatK encD 32 ds.toArray = F at hg hs
    rw [getElem!_pos F t hs, getElem!_pos L (t % 32) h2] at hg
    rw [hg]
  · rw [List.getElem?_eq_none (by simpa using ht), List.getElem?_eq_none (by rw [flatD_len]; omega)]
theorem OwnDs.heap {w : World} {B g n c : Nat} {ds : List Dg} (h : OwnDs w B (.slice (some ⟨g, 0, none⟩) n c) ds) : ∃ cur, n = ds.length ∧ B ≤ g ∧ w.heap[g]? = some (.cells cur 23 (0, 0)) ∧ n ≤ c ∧ c ≤ maxLen ∧ cur.size = c * 32 ∧ cur.toList.take (n * 32) = flatD ds := by
  obtain ⟨_, ⟨h0, _⟩ | ⟨g', cap, cur, he, hb, hg, hle, hm, hs, ht⟩⟩ := h
  · cases h0
  · simp only [Value.slice.injEq, Option.some.injEq, Addr.mk.injEq, and_true] at he
    obtain ⟨rfl, rfl, rfl⟩ := he
    exact ⟨cur, rfl, hb, hg, hle, hm, hs, ht⟩
theorem OwnDs.holds {w : World} {B g n c : Nat} {ds : List Dg} (h : OwnDs w B (.slice (some ⟨g, 0, none⟩) n c) ds) : HoldsK encD 32 w g 0 ds.toArray := by
  obtain ⟨cur, rfl, hb, hg, hle, hm, hs, ht⟩ := h.heap
  intro j hj
  have hj' : j < ds.length * 32 := by simpa using hj
  refine ⟨?_, by simp [World.frozen?, hg]⟩
  have h1 : (cur.toList.take (ds.length * 32))[j]? = (flatD ds)[j]? := by rw [ht]
  rw [List.getElem?_take_of_lt hj'] at h1
  simp only [World.cell?, hg, Nat.zero_add]
  simp only [Option.isSome_none, Bool.false_eq_true, if_false]
  rw [← Array.getElem?_toList, h1, ← flatK_list, Array.getElem?_toList, Array.getElem?_eq_getElem hj, getElem!_pos _ j hj]
  rfl
theorem OwnDs.sorted {w : World} {B g c n : Nat} {ds ts : List Dg} (h : OwnDs w B (.slice (some ⟨g, 0, none⟩) ds.length c) ds) (hl : ts.length = ds.length) (os : Array Obj) :
    OwnDs (sortWorldK encD 32 w g 0 n ts.toArray os) B (.slice (some ⟨g, 0, none⟩) ds.length c) ts ∧ w.grownBy (sortWorldK encD 32 w g 0 n ts.toArray os) (some g) := by
  obtain ⟨cur, -, hb, hg, hle, hm, hs, ht⟩ := h.heap
  have hlt : g < w.heap.size := (Array.getElem?_eq_some_iff.1 hg).1
  constructor
  · refine ⟨by rw [flatD_len], .inr ⟨g, c, putCells id 0 (flatK encD 32 ts.toArray) cur, by rw [hl], hb, ?_, by omega, hm, by simp [putCells, hs], ?_⟩⟩
    · unfold sortWorldK putRowK
      rw [heap_grow_old _ _ (by simpa using hlt)]
      simp [putRow, mapBlock, Sort.ahead, Array.getElem?_modify, hg, onCells]
    · apply List.ext_getElem?
      intro j
      by_cases hj : j < ts.length * 32
      · have hjf : j < (flatK encD 32 ts.toArray).size := by simpa using hj
        have hjc : j < cur.size := by rw [hs]; have := Nat.mul_le_mul_right 32 hle; omega
        rw [List.getElem?_take_of_lt hj, Array.getElem?_toList, ← flatK_list, Array.getElem?_toList]
        simp only [putCells, Array.getElem?_mapIdx, Array.getElem?_eq_getElem hjc, Option.map_some]
        rw [if_pos (by omega), Array.getElem?_eq_getElem hjf, Nat.sub_zero, getElem!_pos _ j hjf]
        rfl
      · rw [List.getElem?_take_eq_none (by omega), List.getElem?_eq_none (by rw [flatD_len]; omega)]
  · refine ⟨rfl, rfl, rfl, by simp [sortWorldK, putRowK, putRow, mapBlock, Sort.ahead], fun k hk hne => ?_⟩
    unfold sortWorldK putRowK
    rw [heap_grow_old _ _ (by simpa using hk)]
    have : g ≠ k := fun e => hne (by rw [e])
    simp [putRow, mapBlock, Sort.ahead, Array.getElem?_modify, this]
theorem ltD (a b : Dg) : ltOf dcmp a b = decide (dN a < dN b) := by
  unfold ltOf
  rw [dcmp_num]
  by_cases h1 : dN a < dN b
  · simp [h1]
  · by_cases h2 : dN b < dN a <;> simp [h1, h2]
theorem swoD : SWO (ltOf dcmp) where
  irrefl x := by rw [ltD]; simp
  trans x y z h1 h2 := by rw [ltD] at *; simp at *; omega
  ntrans x y z h1 h2 := by rw [ltD] at *; simp at *; omega
theorem below_grownD {w w' : World} {B g : Nat} (hg : w.grownBy w' (some g)) (hb : B ≤ w.heap.size) (hB : B ≤ g) : Below B w w' :=
  ⟨hg.os, hg.tape, hg.output, hg.size, fun k hk => hg.block k (by omega) (fun e => by cases e; omega)⟩
theorem encD_arr (d : Dg) : (encD d).toArray = dg_secA d := Array.toArray_toList
theorem cmp_enc (x y : Dg) (w : World) : Calls Try.prog 10 (#[.agg (encD x).toArray, .agg (encD y).toArray] ++ #[]) w fun e w' => e = .returned (.int .i64 (dcmp x y)) ∧ ∃ q os, w' = grow (w.drewN q) os := by
  rw [encD_arr, encD_arr, Array.append_empty]
  exact compare_grow x y w
theorem sort_any (g c B : Nat) (ds : List Dg) (w : World) (h : OwnDs w B (.slice (some ⟨g, 0, none⟩) ds.length c) ds) (hb : B ≤ w.heap.size) (hsz : ds.length < 4611686018427387904) :
    Calls Try.prog 23 #[.slice (some ⟨g, 0, none⟩) ds.length c, .func (.func 10) #[] #[]] w fun e w' =>
      e = .returned (.tuple #[]) ∧ ∃ ts, ts.length = ds.length ∧ OwnDs w' B (.slice (some ⟨g, 0, none⟩) ds.length c) ts ∧ (nums ts).Pairwise (· ≤ ·) ∧ (∀ n, n ∈ nums ts ↔ n ∈ nums ds) ∧ w.grownBy w' (some g) ∧ Below B w w' := by
  obtain ⟨cur, -, hB, hg, -⟩ := h.heap
  have hlt : g < w.heap.size := (Array.getElem?_eq_some_iff.1 hg).1
  have eg : ∀ args w, (callFunc 10 args).run Try.prog w = .ok (.enter 10 args) w := enters_of Try.func10 (by kernel_rfl) rfl
  have hcmp : CmpLays Try.prog 10 #[] encD 32 dcmp g 0 ds.toArray.size w := fun _ _ _ _ x y => cmp_enc x y _
  have hcon := AnyQ.slices_SortFunc sortDg 32 Try.isAgg23 Try.sizeOf23 encD encD_len encD_one dcmp swoD 10 #[] g 0 c ds.toArray w eg hcmp h.holds hlt (by simpa using hsz)
  change Calls Try.prog 23 _ _ _ at hcon
  rw [List.size_toArray] at hcon
  refine hcon.mono ?_
  rintro e w' ⟨rfl, d', n, os, ⟨hp1, -, hp2⟩, hs, rfl⟩
  have hl : d'.toList.length = ds.length := by simpa using hp1
  have hO := h.sorted (n := n) hl os
  rw [Array.toArray_toList] at hO
  have hperm : d'.toList.Perm ds := by
    have e1 : d'.extract 0 ds.length = d' := by
      have : ds.length = d'.size := by simpa using hp1.symm
      rw [this]; simp
    have e2 : ds.toArray.extract 0 ds.length = ds.toArray := by simp
    rw [e1, e2] at hp2
    simpa using hp2
  refine ⟨rfl, d'.toList, hl, hO.1, ?_, fun n => ?_, hO.2, below_grownD hO.2 hb hB⟩
  · rw [List.pairwise_iff_getElem]
    intro i j hi hj hij
    have hj' : j < d'.size := by simpa [nums] using hj
    have hi' : i < d'.size := by omega
    have h1 := hs i j (by omega) hij (by simpa using (hl ▸ (by simpa using hj')))
    rw [ltD, decide_eq_false_iff_not, getElem!_pos d' i hi', getElem!_pos d' j hj'] at h1
    simp [nums]
    omega
  · have := (hperm.map dN).mem_iff (a := n)
    exact this
end Go.Proofs.Ythkjfgncbmpllaa
