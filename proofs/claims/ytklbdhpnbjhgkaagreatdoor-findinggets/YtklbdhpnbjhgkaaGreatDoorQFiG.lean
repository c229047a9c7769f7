import Derived.Test.YtklbdhpnbjhgkaaGreatDoorQFis
import Derived.Test.YtklbdhpnbjhgkaaGreatDoorQFin1
import Derived.Test.YtklbdhpnbjhgkaaGreatDoorQKel
import Derived.BigQuiet
import Derived.Deep.QuietTactic
namespace Go.Proofs.YtklbdhpnbjhgkaaGreatDoor
open Go.RowKit Go.Sort Go.Shelf

/-! slices.SortFunc of findings of the call's own -/
def encF (d : Fd) : List Value := (fdA d).toList
theorem encF_len (d : Fd) : (encF d).length = 2 := by simp [encF, fdA]
theorem encF_one (d : Fd) : ∀ v ∈ encF d, v.oneCell' = true := fun u hu => by
  have h := fdA_one d
  unfold OneC at h
  exact Array.all_eq_true_iff_forall_mem.1 h u (by simpa [encF] using hu)
theorem encF_enc (d : Fd) : fdE.enc d = encF d := by rw [fdE_enc]; rfl
theorem flatF_list (ds : List Fd) : (flatK encF 2 ds.toArray).toList = flK fdE ds := by
  apply List.ext_getElem?
  intro t
  by_cases ht : t < ds.length * 2
  · have h1 : t / 2 < ds.length := by omega
    obtain ⟨d, hd0⟩ : ∃ d, ds[t / 2] = d := ⟨_, rfl⟩
    have e1 : ds.toArray[t / 2]! = d := by rw [← hd0]; simp [h1]
    have hL := encF_len d
    have hd : ∀ u, (encF d)[t % 2]? = some u → (flK fdE ds)[t]? = some u := fun u hu => by
      have := flK_at fdE_ok ds t d (by rw [fdE_k, List.getElem?_eq_getElem h1, hd0])
      rw [fdE_k, encF_enc] at this
      rw [this]; exact hu
    have hs : t < (flatK encF 2 ds.toArray).size := by simpa using ht
    have hg := get_flatK encF 2 ds.toArray t (by simpa using ht)
    rw [e1] at hg
    generalize encF d = L at hL hd hg
    have h2 : t % 2 < L.length := by omega
    rw [hd L[t % 2] (List.getElem?_eq_getElem h2), Array.getElem?_toList, Array.getElem?_eq_getElem hs]
    generalize flatK encF 2 ds.toArray = F at hg hs
    rw [getElem!_pos F t hs, getElem!_pos L (t % 2) h2] at hg
    rw [hg]
  · rw [List.getElem?_eq_none (by simpa using ht), List.getElem?_eq_none (by rw [flK_len fdE_ok, fdE_k]; omega)]
theorem holdsF {w : World} {B g n c : Nat} {ds : List Fd} (h : OwnK fdE w B (.slice (some ⟨g, 0, none⟩) n c) ds) : HoldsK encF 2 w g 0 ds.toArray := by
  obtain ⟨cur, rfl, hb, hg, hle, hm, hs, ht⟩ := h.heap
  rw [fdE_k] at hs ht
  intro j hj
  have hj' : j < ds.length * 2 := by simpa using hj
  refine ⟨?_, by simp [World.frozen?, hg]⟩
  have h1 : (cur.toList.take (ds.length * 2))[j]? = (flK fdE ds)[j]? := by rw [ht]
  rw [List.getElem?_take_of_lt hj'] at h1
  simp only [World.cell?, hg, Nat.zero_add]
  simp only [Option.isSome_none, Bool.false_eq_true, if_false]
  rw [← Array.getElem?_toList, h1, ← flatF_list, Array.getElem?_toList, Array.getElem?_eq_getElem hj, getElem!_pos _ j hj]
  rfl
theorem sortedF {w : World} {B g c n : Nat} {ds ts : List Fd} (h : OwnK fdE w B (.slice (some ⟨g, 0, none⟩) ds.length c) ds) (hl : ts.length = ds.length) (os : Array Obj) :
    OwnK fdE (sortWorldK encF 2 w g 0 n ts.toArray os) B (.slice (some ⟨g, 0, none⟩) ds.length c) ts ∧ w.grownBy (sortWorldK encF 2 w g 0 n ts.toArray os) (some g) := by
  obtain ⟨cur, -, hb, hg, hle, hm, hs, ht⟩ := h.heap
  rw [fdE_k] at hs ht
  have hlt : g < w.heap.size := (Array.getElem?_eq_some_iff.1 hg).1
  constructor
  · refine ⟨by rw [flK_len fdE_ok], .inr ⟨g, c, putCells id 0 (flatK encF 2 ts.toArray) cur, by rw [hl], hb, ?_, by omega, hm, by simp [putCells, hs, fdE_k], ?_⟩⟩
    · unfold sortWorldK putRowK
      rw [heap_grow_old _ _ (by simpa using hlt)]
      simp [putRow, mapBlock, Sort.ahead, Array.getElem?_modify, hg, onCells]
    · rw [fdE_k]
      apply List.ext_getElem?
      intro j
      by_cases hj : j < ts.length * 2
      · have hjf : j < (flatK encF 2 ts.toArray).size := by simpa using hj
        have hjc : j < cur.size := by rw [hs]; have := Nat.mul_le_mul_right 2 hle; omega
        rw [List.getElem?_take_of_lt hj, Array.getElem?_toList, ← flatF_list, Array.getElem?_toList]
        simp only [putCells, Array.getElem?_mapIdx, Array.getElem?_eq_getElem hjc, Option.map_some]
        rw [if_pos (by omega), Array.getElem?_eq_getElem hjf, Nat.sub_zero, getElem!_pos _ j hjf]
        rfl
      · rw [List.getElem?_take_eq_none (by omega), List.getElem?_eq_none (by rw [flK_len fdE_ok, fdE_k]; omega)]
  · refine ⟨rfl, rfl, rfl, by simp [sortWorldK, putRowK, putRow, mapBlock, Sort.ahead], fun k hk hne => ?_⟩
    unfold sortWorldK putRowK
    rw [heap_grow_old _ _ (by simpa using hk)]
    have : g ≠ k := fun e => hne (by rw [e])
    simp [putRow, mapBlock, Sort.ahead, Array.getElem?_modify, this]
theorem ltOfF (a b : Fd) : ltOf cmpF a b = ltF a b := by
  unfold ltOf
  have := cmpF_lt a b
  cases h : ltF a b
  · rw [h] at this; simp at this; simp; omega
  · rw [h] at this; simp at this; simp; omega
theorem swoF : SWO (ltOf cmpF) where
  irrefl x := by rw [ltOfF]; exact ltF_irr x
  trans x y z h1 h2 := by rw [ltOfF] at *; exact ltF_trans h1 h2
  ntrans x y z h1 h2 := by
    rw [ltOfF] at *
    unfold ltF at *
    simp only [decide_eq_false_iff_not] at *
    omega
theorem encF_arr (d : Fd) : (encF d).toArray = fdA d := Array.toArray_toList
theorem cmp_encF (x y : Fd) (w : World) : Calls Tryz.prog 23 (#[.agg (encF x).toArray, .agg (encF y).toArray] ++ #[]) w fun e w' => e = .returned (.int .i64 (cmpF x y)) ∧ ∃ q os, w' = grow (w.drewN q) os := by
  rw [encF_arr, encF_arr, Array.append_empty]
  exact byKind22 x y w
theorem sort22 (g c B : Nat) (ds : List Fd) (w : World) (h : OwnK fdE w B (.slice (some ⟨g, 0, none⟩) ds.length c) ds) (_hb : B ≤ w.heap.size) (hsz : ds.length < 4611686018427387904) :
    Calls Tryz.prog 38 #[.slice (some ⟨g, 0, none⟩) ds.length c, .func (.func 23) #[] #[]] w fun e w' =>
      e = .returned (.tuple #[]) ∧ ∃ ts, ts.length = ds.length ∧ OwnK fdE w' B (.slice (some ⟨g, 0, none⟩) ds.length c) ts ∧ ts.Pairwise (fun a b => ltF b a = false) ∧ (∀ n, n ∈ ts ↔ n ∈ ds) ∧ w.grownBy w' (some g) ∧ B ≤ g := by
  obtain ⟨cur, -, hB, hg, -⟩ := h.heap
  have hlt : g < w.heap.size := (Array.getElem?_eq_some_iff.1 hg).1
  have eg : ∀ args w, (callFunc 23 args).run Tryz.prog w = .ok (.enter 23 args) w := enters_of Tryz.func23 (by kernel_rfl) rfl
  have hcmp : CmpLays Tryz.prog 23 #[] encF 2 cmpF g 0 ds.toArray.size w := fun _ _ _ _ x y => cmp_encF x y _
  have hcon := AnyQ.slices_SortFunc sortFd 2 Tryz.isAgg25 Tryz.sizeOf25 encF encF_len encF_one cmpF swoF 23 #[] g 0 c ds.toArray w eg hcmp (holdsF h) hlt (by simpa using hsz)
  change Calls Tryz.prog 38 _ _ _ at hcon
  rw [List.size_toArray] at hcon
  refine hcon.mono ?_
  rintro e w' ⟨rfl, d', n, os, ⟨hp1, -, hp2⟩, hs, rfl⟩
  have hl : d'.toList.length = ds.length := by simpa using hp1
  have hO := sortedF (n := n) h hl os
  rw [Array.toArray_toList] at hO
  have hperm : d'.toList.Perm ds := by
    have e1 : d'.extract 0 ds.length = d' := by
      have : ds.length = d'.size := by simpa using hp1.symm
      rw [this]; simp
    have e2 : ds.toArray.extract 0 ds.length = ds.toArray := by simp
    rw [e1, e2] at hp2
    simpa using hp2
  refine ⟨rfl, d'.toList, hl, hO.1, ?_, fun n => hperm.mem_iff, hO.2, hB⟩
  rw [List.pairwise_iff_getElem]
  intro i j hi hj hij
  have hj' : j < d'.size := by simpa using hj
  have hi' : i < d'.size := by omega
  have h1 := hs i j (by omega) hij (by simpa using (hl ▸ (by simpa using hj')))
  rw [ltOfF, getElem!_pos d' i hi', getElem!_pos d' j hj'] at h1
  exact h1
end Go.Proofs.YtklbdhpnbjhgkaaGreatDoor
namespace Go.Proofs.YtklbdhpnbjhgkaaGreatDoor
open Go.RowKit Go.Sort

/-! slices.Compact of findings of the call's own, in order -/
def cutF (x lo : Value) : Sem Next := do pure (.value (← Instr.sliceAt 22 x (some lo) none none))
def cutF0 (x hi : Value) : Sem Next := do pure (.value (← Instr.sliceAt 22 x none (some hi) none))
@[go_sem ↓] theorem execOp_cutF (ρ : Operand → Value) (dst : Option Tmp) (ty : TypeId) (pos : String) (after : Array Edge) (guard : Option (Nat × Bool)) (x lo : Operand) : execOp ρ { dst, op := .slice 22 x (some lo) none none, type := ty, pos, after, guard } = cutF (ρ x) (ρ lo) := rfl
@[go_sem ↓] theorem execOp_cutF0 (ρ : Operand → Value) (dst : Option Tmp) (ty : TypeId) (pos : String) (after : Array Edge) (guard : Option (Nat × Bool)) (x hi : Operand) : execOp ρ { dst, op := .slice 22 x none (some hi) none, type := ty, pos, after, guard } = cutF0 (ρ x) (ρ hi) := rfl
theorem run_cutF (w : World) (b o n c k r d : Nat) (h1 : k + r = n) (h2 : k + d = c) (h4 : 0 < d) : (cutF (.slice (some ⟨b, o, none⟩) n c) (.int .i64 (k : Int))).run Tryz.prog w = .ok (.value (.slice (some ⟨b, o + k * 2, none⟩) r d)) w := by
  have b1 : ∀ W : World, (Instr.sliceBound (.int .i64 (k : Int)) n BoundsCode.sliceB).run Tryz.prog W = .ok k W := fun W => by
    have := run_sliceBound (P := Tryz.prog) W .i64 (k : Int) n BoundsCode.sliceB (by omega) (by omega)
    simpa using this
  have e1 : ¬ c = k := by omega
  have e2 : n - k = r := by omega
  have e3 : c - k = d := by omega
  simp [cutF, Instr.sliceAt, Instr.slice, run_underlying Tryz.underlying22, Instr.sliceBounds, b1, e1, e2, e3, addr_add]
theorem run_cutF0 (w : World) (b o n c k : Nat) (h1 : k ≤ c) : (cutF0 (.slice (some ⟨b, o, none⟩) n c) (.int .i64 (k : Int))).run Tryz.prog w = .ok (.value (.slice (some ⟨b, o, none⟩) k c)) w := by
  have b1 : ∀ W : World, (Instr.sliceBound (.int .i64 (k : Int)) c BoundsCode.sliceAcap).run Tryz.prog W = .ok k W := fun W => by
    have := run_sliceBound (P := Tryz.prog) W .i64 (k : Int) c BoundsCode.sliceAcap (by omega) (by omega)
    simpa using this
  by_cases hc : c = 0
  · subst hc
    simp [cutF0, Instr.sliceAt, Instr.slice, run_underlying Tryz.underlying22, Instr.sliceBounds, b1]
  · simp [cutF0, Instr.sliceAt, Instr.slice, run_underlying Tryz.underlying22, Instr.sliceBounds, b1]
    intro _
    rw [addr_add, Nat.add_zero]
theorem rngF {w : World} {B g n c : Nat} {ms : List Fd} (h : OwnK fdE w B (.slice (some ⟨g, 0, none⟩) n c) ms) (i : Nat) (d : Fd) (hi : ms[i]? = some d) : rgOk w g (i * 2) 2 = true ∧ rg w g (i * 2) 2 = fdA d := by
  obtain ⟨b, o, he, -, -, -, h1, h2⟩ := fd_at (h.isK fdE_ok) i d hi
  cases he
  rw [Nat.zero_add] at h1 h2
  exact ⟨h1, h2⟩
theorem get_restF (rs ts : List Fd) (K i : Nat) (hK : rs.length = K) (hi : K ≤ i) : (rs ++ ts.drop K)[i]? = ts[i]? := by
  subst hK
  rw [List.getElem?_append_right hi, List.getElem?_drop, show rs.length + (i - rs.length) = i by omega]
theorem fd_ne (a b : Fd) (h : ¬ a = b) : fdEq a b = false := by rw [fdEq_dec]; simp [h]
theorem fd_eq (a b : Fd) (h : a = b) : fdEq a b = true := by rw [fdEq_dec]; simp [h]
theorem putF {w : World} {B g n c : Nat} {ms : List Fd} (h : OwnK fdE w B (.slice (some ⟨g, 0, none⟩) n c) ms) (K : Nat) (d : Fd) (hK : K < n) : OwnK fdE (w.setCells g (K * 2) (fdA d).toList) B (.slice (some ⟨g, 0, none⟩) n c) (ms.set K d) := by
  have := h.put fdE_ok K d hK
  rwa [fdE_k, fdE_enc] at this
theorem storeF {w : World} {B g n c : Nat} {ms : List Fd} (h : OwnK fdE w B (.slice (some ⟨g, 0, none⟩) n c) ms) (K : Nat) (d : Fd) (hK : K < n) : (bigStore 25 (.pointer (some ⟨g, K * 2, none⟩)) (.agg (fdA d))).run Tryz.prog w = .ok .skip (w.setCells g (K * 2) (fdA d).toList) := by
  have := h.store fdE_ok K d hK
  rw [fdE_k, fdE_arr, fdE_enc] at this
  have h9 : (Instr.storeAt 25 (.pointer (some ⟨g, K * 2, none⟩)) (.agg (fdA d))).run Tryz.prog w = .ok () (w.setCells g (K * 2) (fdA d).toList) := this
  simp only [bigStore, Sem.run_bind, h9]
  rfl
theorem pastF {w : World} {B g n c : Nat} {ms : List Fd} (h : OwnK fdE w B (.slice (some ⟨g, 0, none⟩) n c) ms) (vs : List Value) : OwnK fdE (w.setCells g (n * 2) vs) B (.slice (some ⟨g, 0, none⟩) n c) ms := by
  obtain ⟨cur, hn, hb, hg, hle, hm, hs, ht⟩ := h.heap
  rw [fdE_k] at hs ht
  subst hn
  refine ⟨by rw [flK_len fdE_ok], .inr ⟨g, c, _, rfl, hb, heap_setC g _ _ w cur _ _ hg, hle, hm, ?_, ?_⟩⟩
  · have hz : ∀ (vs : List Value) (s : Nat) (F : Array Value), (setM F s vs).size = F.size := fun vs => by
      induction vs with
      | nil => intro s F; rfl
      | cons a r ih => intro s F; rw [setM, ih]; simp
    rw [hz, hs, fdE_k]
  · rw [fdE_k]
    apply List.ext_getElem?
    intro t
    by_cases hj : t < ms.length * 2
    · have hjc : t < cur.size := by rw [hs]; have := Nat.mul_le_mul_right 2 hle; omega
      rw [List.getElem?_take_of_lt hj, Array.getElem?_toList, setM_get _ _ _ t hjc, if_neg (by omega), ← ht, List.getElem?_take_of_lt hj, Array.getElem?_toList]
    · rw [List.getElem?_take_eq_none (by omega), List.getElem?_eq_none (by rw [flK_len fdE_ok, fdE_k]; omega)]
theorem clearF {w : World} {B g n c : Nat} {ms : List Fd} (h : OwnK fdE w B (.slice (some ⟨g, 0, none⟩) n c) ms) (K r d : Nat) (hK : K + r = n) (hr : 0 < r) : ∃ vs, ∀ ty, (Builtin.clear_ #[22] ty #[.slice (some ⟨g, K * 2, none⟩) r d]).run Tryz.prog w = .ok (.tuple #[]) (w.setCells g (K * 2) vs) := by
  have hzl : ∀ n, (Builtin.zeroCells (fdA fdZ) n).toList.length = n * 2 := fun n => by simp [Builtin.zeroCells, fdA_size]
  have hz1 : ∀ n, ∀ v ∈ (Builtin.zeroCells (fdA fdZ) n).toList, v.oneCell' = true := fun n v hv => by
    simp only [Builtin.zeroCells, Array.toList_map, List.mem_map] at hv
    obtain ⟨i, -, rfl⟩ := hv
    have hi : i % (fdA fdZ).size < (fdA fdZ).size := Nat.mod_lt _ (by rw [fdA_size]; omega)
    rw [getElem!_pos (fdA fdZ) (i % (fdA fdZ).size) hi]
    have h1 := fdA_one fdZ
    unfold OneC at h1
    exact Array.all_eq_true_iff_forall_mem.1 h1 _ (Array.getElem_mem hi)
  obtain ⟨i, hi, hzz⟩ := Option.map_eq_some_iff.1 fdE_ok.info
  simp only [Prod.mk.injEq] at hzz
  obtain ⟨hz, hs, hby⟩ := hzz
  have ht := h.there (K * 2) (r * 2) (by rw [fdE_k]; have : K * 2 + r * 2 = n * 2 := by rw [← hK, Nat.add_mul]
                                         omega)
  refine ⟨(Builtin.zeroCells (fdA fdZ) r).toList, fun ty => ?_⟩
  have hst := run_storeCells_cells (P := Tryz.prog) g (K * 2) (Builtin.zeroCells (fdA fdZ) r).toList 0 w (fun j hj => by simpa using (ht j (by rw [hzl] at hj; exact hj)).1) (fun j hj => by simpa using (ht j (by rw [hzl] at hj; exact hj)).2) (hz1 r)
  simp only [Nat.add_zero] at hst
  obtain ⟨m, rfl⟩ : ∃ m, r = m + 1 := ⟨r - 1, by omega⟩
  have hv : ∀ W : World, (zeroValue 25).run Tryz.prog W = .ok (.agg (fdA fdZ)) W := fun W => (zero_of_info info_fd).1 W
  have hc : (Value.agg (fdA fdZ)).cells = fdA fdZ := rfl
  simp only [Builtin.clear_]
  simp [hv, hc, hst, run_underlying Tryz.underlying22]
/-! What stays of equal neighbours -/
def SrF (ts rs : List Fd) : Prop := RisF rs ∧ ∀ x, x ∈ rs ↔ x ∈ ts
theorem SrF.self {ts : List Fd} (h : RisF ts) : SrF ts ts := ⟨h, fun _ => Iff.rfl⟩
theorem take_snocF (ts : List Fd) (k : Nat) (d : Fd) (h : ts[k]? = some d) : ts.take (k + 1) = ts.take k ++ [d] := by
  obtain ⟨hk, rfl⟩ := List.getElem?_eq_some_iff.1 h
  exact List.take_succ_eq_append_getElem hk
theorem SrF.same {ts rs : List Fd} {m : Nat} {x y : Fd} (h : SrF (ts.take m) rs) (hm : 0 < m) (hx : ts[m]? = some x) (hy : ts[m - 1]? = some y) (he : x = y) : SrF (ts.take (m + 1)) rs := by
  refine ⟨h.1, fun z => ?_⟩
  rw [take_snocF ts m x hx, List.mem_append, ← h.2 z]
  have hyt : y ∈ ts.take m := by
    rw [List.mem_iff_getElem?]
    exact ⟨m - 1, by rw [List.getElem?_take_of_lt (by omega)]; exact hy⟩
  constructor
  · exact fun hz => .inl hz
  · rintro (hz | hz)
    · exact hz
    · rw [List.mem_singleton] at hz
      rw [hz, he]; exact (h.2 y).2 hyt
theorem SrF.more {ts rs : List Fd} {m : Nat} {x y : Fd} (h : SrF (ts.take m) rs) (hs : ts.Pairwise (fun a b => ltF b a = false)) (hm : 0 < m) (hx : ts[m]? = some x) (hy : ts[m - 1]? = some y) (he : ¬ x = y) : SrF (ts.take (m + 1)) (rs ++ [x]) := by
  have hall : ∀ i j a b, ts[i]? = some a → ts[j]? = some b → i < j → ltF b a = false := fun i j a b ha hb hij => by
    obtain ⟨h1, rfl⟩ := List.getElem?_eq_some_iff.1 ha
    obtain ⟨h2, rfl⟩ := List.getElem?_eq_some_iff.1 hb
    exact List.pairwise_iff_getElem.1 hs i j h1 h2 hij
  constructor
  · rw [RisF, List.pairwise_append]
    refine ⟨h.1, by simp, fun z hz u hu => ?_⟩
    rw [List.mem_singleton] at hu
    subst hu
    obtain ⟨i, hi⟩ := List.mem_iff_getElem?.1 ((h.2 z).1 hz)
    have him : i < m := by
      rcases Nat.lt_or_ge i m with h9 | h9
      · exact h9
      · rw [List.getElem?_eq_none (by rw [List.length_take]; omega)] at hi; cases hi
    rw [List.getElem?_take_of_lt him] at hi
    have h1 := hall i m z u hi hx him
    rcases ltF_tri z u with h2 | h2 | h2
    · exact h2
    · exfalso
      subst h2
      have h3 := hall (m - 1) m y z hy hx (by omega)
      rcases ltF_tri z y with h4 | h4 | h4
      · rw [h3] at h4; cases h4
      · exact he h4
      · rcases Nat.lt_or_ge i (m - 1) with h5 | h5
        · have := hall i (m - 1) z y hi hy h5
          rw [this] at h4; cases h4
        · obtain rfl : i = m - 1 := by omega
          rw [hi] at hy; cases hy
          exact he rfl
    · rw [h1] at h2; cases h2
  · intro z
    rw [take_snocF ts m x hx, List.mem_append, List.mem_append, h.2 z]
theorem put_midF (rs ts : List Fd) (K : Nat) (x : Fd) (hK : rs.length = K) (hl : K < ts.length) : (rs ++ ts.drop K).set K x = (rs ++ [x]) ++ ts.drop (K + 1) := by
  subst hK
  rw [List.set_append_right _ _ (Nat.le_refl _), Nat.sub_self]
  obtain ⟨a, ha⟩ : ∃ a, ts[rs.length]? = some a := ⟨_, List.getElem?_eq_getElem hl⟩
  obtain ⟨hk, rfl⟩ := List.getElem?_eq_some_iff.1 ha
  rw [List.drop_eq_getElem_cons hk, List.set_cons_zero, List.append_assoc]
  rfl
theorem below_by22 {w w' : World} {B : Nat} {row : Option Nat} (hg : w.grownBy w' row) (hb : B ≤ w.heap.size) (hr : ∀ k, row = some k → B ≤ k) : Below B w w' := (Below.refl B w).grown hg hb hr
set_option linter.unusedSimpArgs false in
set_option maxHeartbeats 800000 in
theorem compact22 (g c B n : Nat) (ts : List Fd) (w : World) (h : OwnK fdE w B (.slice (some ⟨g, 0, none⟩) n c) ts) (hs : ts.Pairwise (fun a b => ltF b a = false)) (hlen : n ≤ 140737488355328) :
    Calls Tryz.prog 39 #[.slice (some ⟨g, 0, none⟩) n c] w fun e w' =>
      ∃ K rs, e = .returned (.slice (some ⟨g, 0, none⟩) K c) ∧ OwnK fdE w' B (.slice (some ⟨g, 0, none⟩) K c) rs ∧ SrF ts rs ∧ w.grownBy w' (some g) := by
  obtain ⟨cur, hn, -, -, hnc, -⟩ := h.heap
  clear cur
  replace hn := hn.symm
  by_cases h2 : n < 2
  · have hi2 : (n : Int) < 2 := by omega
    have hp : RisF ts := by
      rw [RisF, List.pairwise_iff_getElem]
      intro i j hi hj hij
      omega
    go_enter Tryz.func39, Tryz.ntmps39
    go_wp2
    go_ret
    exact ⟨n, ts, rfl, h, SrF.self hp, grown_drew w 0 _⟩
  · have hi2 : ¬ (n : Int) < 2 := by omega
    have hp1 : RisF (ts.take 1) := by
      rw [RisF, List.pairwise_iff_getElem]
      intro i j hi hj hij
      rw [List.length_take] at hj
      omega
    go_enter Tryz.func39, Tryz.ntmps39
    go_wp2_with fail
    clear hi2
    go_loopw [3] (fun v wr => ∃ k : Nat, 1 ≤ k ∧ k ≤ n ∧ v = .int .i64 k ∧ RisF (ts.take k) ∧ OwnK fdE wr B (.slice (some ⟨g, 0, none⟩) n c) ts ∧ w.grownBy wr (some g)) (fun v _ => n - (intOf v).toNat)
    case atStart => exact ⟨1, by omega, by omega, rfl, hp1, h, grown_drew w 0 _⟩
    case round =>
      clear hp1 h
      obtain ⟨k, hk1, hk, rfl, hU, hO, hG⟩ := hrel
      by_cases hlt : k < n
      · obtain ⟨m, hm⟩ : ∃ m, k = m + 1 := ⟨k - 1, by omega⟩
        obtain ⟨x, hx⟩ : ∃ d, ts[k]? = some d := ⟨ts[k]'(by omega), List.getElem?_eq_getElem (by omega)⟩
        obtain ⟨y, hy⟩ : ∃ d, ts[m]? = some d := ⟨ts[m]'(by omega), List.getElem?_eq_getElem (by omega)⟩
        have hy' : ts[k - 1]? = some y := by rw [hm]; exact hy
        obtain ⟨ok1, rg1⟩ := rngF hO k x hx
        obtain ⟨ok2, rg2⟩ := rngF hO m y hy
        have hk0 : (0 : Int) ≤ (k : Int) := by omega
        have hkn : (k : Int) < (n : Int) := by omega
        have hm0 : (0 : Int) ≤ (m : Int) := by omega
        have hmn : (m : Int) < (n : Int) := by omega
        have hkm : (k : Int) - 1 = (m : Int) := by omega
        have hwm : IntKind.i64.wrap (m : Int) = (m : Int) := by rw [IntKind.wrap_i64]; omega
        clear hm
        by_cases he : x = y
        · have heq := fd_eq x y he
          have hS0 : SrF (ts.take (k + 1)) (ts.take k) := (SrF.self hU).same (by omega) hx hy' he
          have HS0 : Hid _ := hS0
          obtain ⟨r, hr⟩ : ∃ r, k + r = n := ⟨n - k, by omega⟩
          obtain ⟨d, hd⟩ : ∃ d, k + d = c := ⟨c - k, by omega⟩
          have hcut : ∀ W, (cutF (.slice (some ⟨g, 0, none⟩) n c) (.int .i64 (k : Int))).run Tryz.prog W = .ok (.value (.slice (some ⟨g, k * 2, none⟩) r d)) W := fun W => by
            have := run_cutF W g 0 n c k r d hr hd (by omega)
            rwa [Nat.zero_add] at this
          have HG : Hid (∀ q, w.grownBy (wr.drewN q) (some g)) := fun q => grown_two hG (grown_drew wr q _)
          have HO : Hid (∀ q, OwnK fdE (wr.drewN q) B (.slice (some ⟨g, 0, none⟩) n c) (ts.take k ++ ts.drop k)) := fun q => by rw [List.take_append_drop]; exact hO
          have hlk : (ts.take k).length = k := by rw [List.length_take]; omega
          clear hU hO hG hS0 he
          go_upto_region 6 with fail
          go_quiet (fail)
          go_wp2_with fail
          clear hcut ok1 ok2 rg1 rg2 heq hkm hwm
          obtain ⟨o2, ho2⟩ : ∃ o, k * 2 = o := ⟨_, rfl⟩
          rw [ho2]
          have hG2 := HG.out nq
          have hO2 := HO.out nq
          generalize wr.drewN nq = X at hG2 hO2 ⊢
          clear HG HO hx hy hy'
          go_loopw [3, 5] (fun vK v2 wq => ∃ K k2 : Nat, ∃ rs : List Fd, 1 ≤ k2 ∧ k2 ≤ r ∧ K < k + k2 ∧ vK = .int .i64 K ∧ v2 = .int .i64 k2 ∧ rs.length = K ∧ SrF (ts.take (k + k2)) rs ∧ OwnK fdE wq B (.slice (some ⟨g, 0, none⟩) n c) (rs ++ ts.drop K) ∧ w.grownBy wq (some g)) (fun _ v2 _ => r - (intOf v2).toNat)
          case atStart => exact ⟨k, 1, ts.take k, by omega, by omega, by omega, rfl, rfl, hlk, HS0.out, hO2, hG2⟩
          case round =>
            clear hO2 hG2 HS0
            obtain ⟨K, k2, rs, hk21, hk2, hKk, rfl, rfl, hrl, hS, hO, hG⟩ := hrel
            by_cases hlt2 : k2 < r
            · obtain ⟨j2, hj2⟩ : ∃ j, k2 = j + 1 := ⟨k2 - 1, by omega⟩
              obtain ⟨x2, hx⟩ : ∃ d, ts[k + k2]? = some d := ⟨ts[k + k2]'(by omega), List.getElem?_eq_getElem (by omega)⟩
              obtain ⟨y2, hy⟩ : ∃ d, ts[k + k2 - 1]? = some d := ⟨ts[k + k2 - 1]'(by omega), List.getElem?_eq_getElem (by omega)⟩
              have f1 := rngF hO (k + k2) x2 (by rw [get_restF rs ts K _ hrl (by omega)]; exact hx)
              have f2 := rngF hO (k + k2 - 1) y2 (by rw [get_restF rs ts K _ hrl (by omega)]; exact hy)
              rw [show (k + k2) * 2 = o2 + k2 * 2 by omega] at f1
              rw [show (k + k2 - 1) * 2 = o2 + j2 * 2 by omega] at f2
              obtain ⟨ok1, rg1⟩ := f1
              obtain ⟨ok2, rg2⟩ := f2
              have hk0' : (0 : Int) ≤ (k2 : Int) := by omega
              have hkn' : (k2 : Int) < (r : Int) := by omega
              have hm0' : (0 : Int) ≤ (j2 : Int) := by omega
              have hmn' : (j2 : Int) < (r : Int) := by omega
              have hkm' : (k2 : Int) - 1 = (j2 : Int) := by omega
              have hwm' : IntKind.i64.wrap (j2 : Int) = (j2 : Int) := by rw [IntKind.wrap_i64]; omega
              clear hj2
              by_cases he : x2 = y2
              · have heq := fd_eq x2 y2 he
                have HS : Hid (SrF (ts.take (k + (k2 + 1))) rs) := hS.same (by omega) hx hy he
                have HG : Hid (∀ q, w.grownBy (wr.drewN q) (some g)) := fun q => grown_two hG (grown_drew wr q _)
                have HO : Hid (∀ q, OwnK fdE (wr.drewN q) B (.slice (some ⟨g, 0, none⟩) n c) (rs ++ ts.drop K)) := fun q => hO
                clear hS hO hG he hx hy
                go_upto_region 11 with fail
                go_quiet (fail)
                go_wp2
                go_roundw
                case rel => exact ⟨K, k2 + 1, rs, by omega, by omega, by omega, rfl, by go_num, hrl, HS.out, HO.out _, HG.out _⟩
                case measure => simp [intOf]; omega
              · have heq := fd_ne x2 y2 he
                have HS : Hid (SrF (ts.take (k + (k2 + 1))) (rs ++ [x2])) := hS.more hs (by omega) hx hy he
                have HG : Hid (∀ q, w.grownBy ((wr.drewN q).setCells g (K * 2) (fdA x2).toList) (some g)) := fun q => grown_two (grown_two hG (grown_drew wr q _)) (grown_setC _ _ _ _)
                have HO : Hid (∀ q, OwnK fdE ((wr.drewN q).setCells g (K * 2) (fdA x2).toList) B (.slice (some ⟨g, 0, none⟩) n c) ((rs ++ [x2]) ++ ts.drop (K + 1))) := fun q => by
                  have h9 : OwnK fdE (wr.drewN q) B (.slice (some ⟨g, 0, none⟩) n c) (rs ++ ts.drop K) := hO
                  have := putF h9 K x2 (by omega)
                  rwa [put_midF rs ts K x2 hrl (by omega)] at this
                have hst : ∀ q, (bigStore 25 (.pointer (some ⟨g, K * 2, none⟩)) (.agg (fdA x2))).run Tryz.prog (wr.drewN q) = .ok .skip ((wr.drewN q).setCells g (K * 2) (fdA x2).toList) := fun q => by
                  have h9 : OwnK fdE (wr.drewN q) B (.slice (some ⟨g, 0, none⟩) n c) (rs ++ ts.drop K) := hO
                  exact storeF h9 K x2 (by omega)
                have hK0 : (0 : Int) ≤ (K : Int) := by omega
                have hKn : (K : Int) < (n : Int) := by omega
                have hrl2 : (rs ++ [x2]).length = K + 1 := by rw [List.length_append, hrl]; rfl
                clear hS hO hG he hx hy hrl
                go_upto_region 11 with fail
                go_quiet (fail)
                go_wp2
                go_roundw
                case rel => exact ⟨K + 1, k2 + 1, rs ++ [x2], by omega, by omega, by omega, by go_num, by go_num, hrl2, HS.out, HO.out _, HG.out _⟩
                case measure => simp [intOf]; omega
            · obtain rfl : k2 = r := by omega
              rw [hr] at hS hKk
              rw [List.take_of_length_le (by omega)] at hS
              obtain ⟨r9, hr9⟩ : ∃ r, K + r = n := ⟨n - K, by omega⟩
              obtain ⟨d9, hd9⟩ : ∃ d, K + d = c := ⟨c - K, by omega⟩
              have hcut : ∀ W, (cutF (.slice (some ⟨g, 0, none⟩) n c) (.int .i64 (K : Int))).run Tryz.prog W = .ok (.value (.slice (some ⟨g, K * 2, none⟩) r9 d9)) W := fun W => by
                have := run_cutF W g 0 n c K r9 d9 hr9 hd9 (by omega)
                rwa [Nat.zero_add] at this
              have hcut0 : ∀ W, (cutF0 (.slice (some ⟨g, 0, none⟩) n c) (.int .i64 (K : Int))).run Tryz.prog W = .ok (.value (.slice (some ⟨g, 0, none⟩) K c)) W := fun W => run_cutF0 W g 0 n c K (by omega)
              obtain ⟨vs, hcl⟩ := clearF hO K r9 d9 hr9 (by omega)
              have HO : Hid (OwnK fdE (wr.setCells g (K * 2) vs) B (.slice (some ⟨g, 0, none⟩) K c) rs) := by
                have h9 := pastF (hO.cut fdE_ok K (by omega)) vs
                rwa [List.take_left' hrl] at h9
              have HG : Hid (w.grownBy (wr.setCells g (K * 2) vs) (some g)) := grown_two hG (grown_setC _ _ _ _)
              have HS : Hid _ := hS
              clear hS hO hG hKk hr9 hd9
              go_wp2
              go_ret
              exact ⟨K, rs, rfl, HO.out, HS.out, HG.out⟩
        · have heq := fd_ne x y he
          have HN : Hid (RisF (ts.take (k + 1))) := by
            have := ((SrF.self hU).more hs (by omega) hx hy' he).1
            show List.Pairwise _ _
            rw [take_snocF ts k x hx]; exact this
          have HG : Hid (∀ q, w.grownBy (wr.drewN q) (some g)) := fun q => grown_two hG (grown_drew wr q _)
          have HO : Hid (∀ q, OwnK fdE (wr.drewN q) B (.slice (some ⟨g, 0, none⟩) n c) ts) := fun q => hO
          clear hU hO hG he
          go_upto_region 6 with fail
          go_quiet (fail)
          go_wp2
          go_roundw
          case rel => exact ⟨k + 1, by omega, by omega, by go_num, HN.out, HO.out _, HG.out _⟩
          case measure => simp [intOf]; omega
      · obtain rfl : k = n := by omega
        have hT : ts.take k = ts := List.take_of_length_le (by omega)
        rw [hT] at hU
        have HU : Hid _ := hU
        clear hU
        go_wp2
        go_ret
        exact ⟨k, ts, rfl, hO, SrF.self HU.out, hG⟩

/-! Sort -/
theorem sortM_of {l rs : List Fd} (h : RisF rs) (hm : ∀ x, x ∈ rs ↔ x ∈ l) : rs = sortM l := ris_unique rs (sortM l) h (sortM_ris l) fun x => by rw [hm, sortM_mem]
set_option linter.unusedSimpArgs false in
set_option maxHeartbeats 800000 in
theorem sorted22 (x : Option Addr) (n c : Nat) (l : List Fd) (w : World) (h : IsK fdE w (.slice x n c) l) (hn : l.length = n) (hl : n * 16 ≤ 140737488355328) :
    Calls Tryz.prog 22 #[.slice x n c, .func (.func 23) #[] #[]] w fun e w' => ∃ v, e = .returned v ∧ OwnK fdE w' w.heap.size v (sortM l) ∧ Below w.heap.size w w' := by
  subst hn
  have b0 := below_alloc w (.cells #[] 25)
  have h0 := own_fdLit0 w
  obtain ⟨g, c', w1, hr, hO, hB⟩ : ∃ g c' w1, (Builtin.append_ #[22, 22] 22 #[.slice (some ⟨w.heap.size, 0, none⟩) 0 0, .slice x l.length c]).run Tryz.prog (w.alloc (.cells #[] 25)) = .ok (.slice (some ⟨g, 0, none⟩) l.length c') w1 ∧ OwnK fdE w1 w.heap.size (.slice (some ⟨g, 0, none⟩) l.length c') l ∧ Below w.heap.size w w1 := by
    by_cases h9 : l = []
    · subst h9
      refine ⟨w.heap.size, 0, _, ?_, own_fdLit0 w, b0⟩
      exact run_appK0 fdE_ok _ (some ⟨w.heap.size, 0, none⟩) 0 0 (Nat.le_refl _) x c 22 (fun e => by cases e)
    · obtain ⟨g, c', w1, q1, q2, -, q3, -⟩ := run_appKeep fdE_ok _ w.heap.size (.slice (some ⟨w.heap.size, 0, none⟩) 0 0) [] l x c 22 h0 (h.kept b0) h9 (by show (0 + l.length) * 16 ≤ _; omega) (by unfold maxLen; simp; omega) b0.size
      have q3' := below_by22 q3 b0.size (fun k hk => by simp [Value.ownBlock] at hk; omega)
      rw [List.nil_append] at q2
      simp only [List.length_nil, Nat.zero_add] at q1 q2
      exact ⟨g, c', w1, q1, q2, b0.trans q3'⟩
  have hS := sort22 g c' w.heap.size l w1 hO hB.size (by omega)
  obtain ⟨n, hn⟩ : ∃ n, l.length = n := ⟨_, rfl⟩
  rw [hn] at hr hS hl ⊢
  go_enter Tryz.func22, Tryz.ntmps22
  go_wp2_with (first | (at_builtin; refine wpL_appG 22 rfl _ _ rfl _ w1 (by exact hr) ?_))
  refine hS.mono ?_
  rintro e w2 ⟨rfl, ts, hlt, hO2, hp, hm, hg2, hBg⟩
  have hC := compact22 g c' w.heap.size n ts w2 hO2 hp (by omega)
  go_wp2_with fail
  refine hC.mono ?_
  rintro e w3 ⟨K, rs, rfl, hO3, hs3, hg3⟩
  have hB2 := below_by22 hg2 hB.size (fun k hk => by cases hk; exact hBg)
  have hB3 := below_by22 hg3 (Nat.le_trans hB.size hB2.size) (fun k hk => by cases hk; exact hBg)
  have HB : Hid (Below w.heap.size w w3) := (hB.trans hB2).trans hB3
  have HS : Hid (rs = sortM l) := sortM_of hs3.1 fun x => (hs3.2 x).trans (hm x)
  clear hs3 hm hp hO2 hO hB hB2 hg2 hg3 hS hC h hB3 b0 h0
  go_wp2
  go_ret
  exact ⟨_, rfl, by rw [← HS.out]; exact hO3, HB.out⟩
set_option linter.unusedSimpArgs false in
theorem sortF22 (x : Option Addr) (n c : Nat) (l : List Fd) (w : World) (h : IsK fdE w (.slice x n c) l) (hn : l.length = n) (hl : n * 16 ≤ 140737488355328) :
    Calls Tryz.prog 8 #[.slice x n c] w fun e w' => ∃ v, e = .returned v ∧ OwnK fdE w' w.heap.size v (sortM l) ∧ Below w.heap.size w w' := by
  have hS := sorted22 x n c l w h hn hl
  go_enter Tryz.func8, Tryz.ntmps8
  go_wp2_with fail
  refine hS.mono ?_
  rintro e w1 ⟨v, rfl, h1, h2⟩
  clear hS
  go_wp2
  go_ret
  exact ⟨v, rfl, h1, h2⟩
end Go.Proofs.YtklbdhpnbjhgkaaGreatDoor
