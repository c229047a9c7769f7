import Derived.Test.YtklbdhpnbjhgkaaGreatDoorQFis
import Derived.Test.YtklbdhpnbjhgkaaGreatDoorQFin1
namespace Go.Proofs.YtklbdhpnbjhgkaaGreatDoor
open Go.RowKit Go.Sort Go.Shelf

/-! slices.SortFunc of findings of the call's own -/
def encF (d : Fd) : List Value := (fdA d).toList
theorem encF_len (d : Fd) : (encF d).length = 2 := by simp [encF, fdA]
theorem encF_one (d : Fd) : ∀ v ∈ encF d, v.oneCell' = true := fun u hu => by
  have h := fdA_one d
  unfold OneC at h
  exact Array.all_eq_true_iff_forall_mem.1 h u (by simpa [encF] using hu)
theorem encF_enc (d : Fd) : fdE.enc d = encF d := by rw [fdE_enc]; rfl
theorem flatF_list (ds : List Fd) : (flatK encF 2 ds.toArray).toList = flK fdE ds := by
  apply List.ext_getElem?
  intro t
  by_cases ht : t < ds.length * 2
  · have h1 : t / 2 < ds.length := by omega
    obtain ⟨d, hd0⟩ : ∃ d, ds[t / 2] = d := ⟨_, rfl⟩
    have e1 : ds.toArray[t / 2]! = d := by rw [← hd0]; simp [h1]
    have hL := encF_len d
    have hd : ∀ u, (encF d)[t % 2]? = some u → (flK fdE ds)[t]? = some u := fun u hu => by
      have := flK_at fdE_ok ds t d (by rw [fdE_k, List.getElem?_eq_getElem h1, hd0])
      rw [fdE_k, encF_enc] at this
      rw [this]; exact hu
    have hs : t < (flatK encF 2 ds.toArray).size := by simpa using ht
    have hg := get_flatK encF 2 ds.toArray t (by simpa using ht)
    rw [e1] at hg
    generalize encF d = L at hL hd hg
    have h2 : t % 2 < L.length := by omega
    rw [hd L[t % 2] (List.getElem?_eq_getElem h2), Array.getElem?_toList, Array.getElem?_eq_getElem hs]
    generalize flatK encF 2 ds.toArray = F at hg hs
    rw [getElem!_pos F t hs, getElem!_pos L (t % 2) h2] at hg
    rw [hg]
  · rw [List.getElem?_eq_none (by simpa using ht), List.getElem?_eq_none (by rw [flK_len fdE_ok, fdE_k]; omega)]
theorem holdsF {w : World} {B g n c : Nat} {ds : List Fd} (h : OwnK fdE w B (.slice (some ⟨g, 0, none⟩) n c) ds) : HoldsK encF 2 w g 0 ds.toArray := by
  obtain ⟨cur, rfl, hb, hg, hle, hm, hs, ht⟩ := h.heap
  rw [fdE_k] at hs ht
  intro j hj
  have hj' : j < ds.length * 2 := by simpa using hj
  refine ⟨?_, by simp [World.frozen?, hg]⟩
  have h1 : (cur.toList.take (ds.length * 2))[j]? = (flK fdE ds)[j]? := by rw [ht]
  rw [List.getElem?_take_of_lt hj'] at h1
  simp only [World.cell?, hg, Nat.zero_add]
  simp only [Option.isSome_none, Bool.false_eq_true, if_false]
  rw [← Array.getElem?_toList, h1, ← flatF_list, Array.getElem?_toList, Array.getElem?_eq_getElem hj, getElem!_pos _ j hj]
  rfl
theorem sortedF {w : World} {B g c n : Nat} {ds ts : List Fd} (h : OwnK fdE w B (.slice (some ⟨g, 0, none⟩) ds.length c) ds) (hl : ts.length = ds.length) (os : Array Obj) :
    OwnK fdE (sortWorldK encF 2 w g 0 n ts.toArray os) B (.slice (some ⟨g, 0, none⟩) ds.length c) ts ∧ w.grownBy (sortWorldK encF 2 w g 0 n ts.toArray os) (some g) := by
  obtain ⟨cur, -, hb, hg, hle, hm, hs, ht⟩ := h.heap
  rw [fdE_k] at hs ht
  have hlt : g < w.heap.size := (Array.getElem?_eq_some_iff.1 hg).1
  constructor
  · refine ⟨by rw [flK_len fdE_ok], .inr ⟨g, c, putCells id 0 (flatK encF 2 ts.toArray) cur, by rw [hl], hb, ?_, by omega, hm, by simp [putCells, hs, fdE_k], ?_⟩⟩
    · unfold sortWorldK putRowK
      rw [heap_grow_old _ _ (by simpa using hlt)]
      simp [putRow, mapBlock, Sort.ahead, Array.getElem?_modify, hg, onCells]
    · rw [fdE_k]
      apply List.ext_getElem?
      intro j
      by_cases hj : j < ts.length * 2
      · have hjf : j < (flatK encF 2 ts.toArray).size := by simpa using hj
        have hjc : j < cur.size := by rw [hs]; have := Nat.mul_le_mul_right 2 hle; omega
        rw [List.getElem?_take_of_lt hj, Array.getElem?_toList, ← flatF_list, Array.getElem?_toList]
        simp only [putCells, Array.getElem?_mapIdx, Array.getElem?_eq_getElem hjc, Option.map_some]
        rw [if_pos (by omega), Array.getElem?_eq_getElem hjf, Nat.sub_zero, getElem!_pos _ j hjf]
        rfl
      · rw [List.getElem?_take_eq_none (by omega), List.getElem?_eq_none (by rw [flK_len fdE_ok, fdE_k]; omega)]
  · refine ⟨rfl, rfl, rfl, by simp [sortWorldK, putRowK, putRow, mapBlock, Sort.ahead], fun k hk hne => ?_⟩
    unfold sortWorldK putRowK
    rw [heap_grow_old _ _ (by simpa using hk)]
    have : g ≠ k := fun e => hne (by rw [e])
    simp [putRow, mapBlock, Sort.ahead, Array.getElem?_modify, this]
theorem ltOfF (a b : Fd) : ltOf cmpF a b = ltF a b := by
  unfold ltOf
  have := cmpF_lt a b
  cases h : ltF a b
  · rw [h] at this; simp at this; simp; omega
  · rw [h] at this; simp at this; simp; omega
theorem swoF : SWO (ltOf cmpF) where
  irrefl x := by rw [ltOfF]; exact ltF_irr x
  trans x y z h1 h2 := by rw [ltOfF] at *; exact ltF_trans h1 h2
  ntrans x y z h1 h2 := by
    rw [ltOfF] at *
    unfold ltF at *
    simp only [decide_eq_false_iff_not] at *
    omega
theorem encF_arr (d : Fd) : (encF d).toArray = fdA d := Array.toArray_toList
theorem cmp_encF (x y : Fd) (w : World) : Calls Tryz.prog 23 (#[.agg (encF x).toArray, .agg (encF y).toArray] ++ #[]) w fun e w' => e = .returned (.int .i64 (cmpF x y)) ∧ ∃ q os, w' = grow (w.drewN q) os := by
  rw [encF_arr, encF_arr, Array.append_empty]
  exact byKind22 x y w
theorem sort22 (g c B : Nat) (ds : List Fd) (w : World) (h : OwnK fdE w B (.slice (some ⟨g, 0, none⟩) ds.length c) ds) (_hb : B ≤ w.heap.size) (hsz : ds.length < 4611686018427387904) :
    Calls Tryz.prog 38 #[.slice (some ⟨g, 0, none⟩) ds.length c, .func (.func 23) #[] #[]] w fun e w' =>
      e = .returned (.tuple #[]) ∧ ∃ ts, ts.length = ds.length ∧ OwnK fdE w' B (.slice (some ⟨g, 0, none⟩) ds.length c) ts ∧ ts.Pairwise (fun a b => ltF b a = false) ∧ (∀ n, n ∈ ts ↔ n ∈ ds) ∧ w.grownBy w' (some g) ∧ B ≤ g := by
  obtain ⟨cur, -, hB, hg, -⟩ := h.heap
  have hlt : g < w.heap.size := (Array.getElem?_eq_some_iff.1 hg).1
  have eg : ∀ args w, (callFunc 23 args).run Tryz.prog w = .ok (.enter 23 args) w := enters_of Tryz.func23 (by kernel_rfl) rfl
  have hcmp : CmpLays Tryz.prog 23 #[] encF 2 cmpF g 0 ds.toArray.size w := fun _ _ _ _ x y => cmp_encF x y _
  have hcon := AnyQ.slices_SortFunc sortFd 2 Tryz.isAgg25 Tryz.sizeOf25 encF encF_len encF_one cmpF swoF 23 #[] g 0 c ds.toArray w eg hcmp (holdsF h) hlt (by simpa using hsz)
  change Calls Tryz.prog 38 _ _ _ at hcon
  rw [List.size_toArray] at hcon
  refine hcon.mono ?_
  rintro e w' ⟨rfl, d', n, os, ⟨hp1, -, hp2⟩, hs, rfl⟩
  have hl : d'.toList.length = ds.length := by simpa using hp1
  have hO := sortedF (n := n) h hl os
  rw [Array.toArray_toList] at hO
  have hperm : d'.toList.Perm ds := by
    have e1 : d'.extract 0 ds.length = d' := by
      have : ds.length = d'.size := by simpa using hp1.symm
      rw [this]; simp
    have e2 : ds.toArray.extract 0 ds.length = ds.toArray := by simp
    rw [e1, e2] at hp2
    simpa using hp2
  refine ⟨rfl, d'.toList, hl, hO.1, ?_, fun n => hperm.mem_iff, hO.2, hB⟩
  rw [List.pairwise_iff_getElem]
  intro i j hi hj hij
  have hj' : j < d'.size := by simpa using hj
  have hi' : i < d'.size := by omega
  have h1 := hs i j (by omega) hij (by simpa using (hl ▸ (by simpa using hj')))
  rw [ltOfF, getElem!_pos d' i hi', getElem!_pos d' j hj'] at h1
  exact h1
end Go.Proofs.YtklbdhpnbjhgkaaGreatDoor
