
import Derived.Test.YtmbkkdojjfdliaaBat8
import Derived.Test.YtmbkkdojjfdliaaOpenGen
namespace Go.Proofs.Ytmbkkdojjfdliaa
open Go.ChangeShapes Go.WideShapes Go.ChangeAt Go.RowKit

/-! Opening []api.Write, [][]api.Write -/
theorem bt_cellsInt : Try.prog.cellsOf 3 = 1 := by kernel_rfl
theorem bt_cellsWr : Try.prog.cellsOf 29 = 65 := by kernel_rfl
theorem bt_bytesWr : Try.prog.bytesOf 29 = 72 := by kernel_rfl
theorem bt_cellsWrs : Try.prog.cellsOf 22 = 1 := by kernel_rfl
theorem bt_bytesWrs : Try.prog.bytesOf 22 = 24 := by kernel_rfl
set_option maxRecDepth 100000 in
theorem bt_wr {H : Type} {enc : TypeId × Value → H} {w : World} {base : Nat} {spare : Nat → Bool} {held : Bool} (fuel : Nat) (cs : List Value) (x : DataW H × List MemPlace)
    (h : DataW.trod enc Try.prog w base spare held fuel wrE.T cs = some x) : ∃ p : Wr, cs = wrE.enc p := by
  have h' : DataW.trod enc Try.prog w base spare held fuel 29 cs = some x := h
  obtain ⟨xs, n, _, hx, hl, hn, hg⟩ := DataW.trod_struct Try.underlying29 h'
  have hl65 : cs.length = 65 := by rw [hl]; exact bt_cellsWr
  have hn2 : xs.length = 2 := hn
  obtain ⟨c0, cr, rfl⟩ : ∃ a r, cs = a :: r := by
    match cs, hl65 with
    | a :: r, _ => exact ⟨a, r, rfl⟩
  obtain ⟨x0, x1, rfl⟩ : ∃ a b, xs = [a, b] := by
    match xs, hn2 with
    | [a, b], _ => exact ⟨a, b, rfl⟩
  have hr64 : cr.length = 64 := by simpa using hl65
  have g0 : DataW.trod enc Try.prog w base spare held n 3 [c0] = some x0 := by
    have q : DataW.trod enc Try.prog w base spare held n 3 (List.take (Try.prog.cellsOf 3) (List.drop 0 (c0 :: cr))) = some x0 := hg 0 _ rfl
    rw [bt_cellsInt] at q
    exact q
  have g1 : DataW.trod enc Try.prog w base spare held n 27 cr = some x1 := by
    have q : DataW.trod enc Try.prog w base spare held n 27 (List.take (Try.prog.cellsOf 27) (List.drop 1 (c0 :: cr))) = some x1 := hg 1 _ rfl
    rw [cells27, List.drop_succ_cons, List.drop_zero, List.take_of_length_le (by omega)] at q
    exact q
  obtain ⟨n0, e0, _, _⟩ := DataW.trod_int Try.underlying3 g0
  obtain ⟨s, hs⟩ := sec_of_trod g1
  simp only [List.cons.injEq, and_true] at e0
  subst e0
  exact ⟨(n0, s), by rw [wrE_enc, wrA_list, hs]⟩
set_option maxRecDepth 100000 in
theorem bt_sized {H : Type} {ds : List (DataW H)} {ts : List TypeId} {d : DataW H} {j : Nat} (h : (DataW.weightsEach Try.prog ts ds).all (fun x => decide (x ≤ reachBytes)) = true) (ht : ts[j]? = some 22) (hd : ds[j]? = some d) :
    bdlen d * 72 ≤ 140737488351232 := by
  cases d with
  | slice el sp =>
    have := List.all_eq_true.1 h _ (DataW.weights_mem_each ht hd ((el.length + sp.length) * Try.prog.bytesOf 29) (by
      simp only [DataW.weights, Try.underlying22]
      simp))
    have h2 := of_decide_eq_true this
    rw [bt_bytesWr] at h2
    simp only [reachBytes] at h2
    simp only [bdlen]
    omega
  | _ => simp [bdlen]
set_option maxRecDepth 100000 in
theorem open_wrs26 {H : Type} {enc : TypeId × Value → H} {w : World} {base b0 : Nat} {spare : Nat → Bool} {held : Bool} {r : Reach} {v : Value} {d : DataW H} {ps : List MemPlace}
    (hval : Value.okWide Try.prog w r b0 22 v) (hd : DataW.Trod enc Try.prog w base spare held 22 v d ps) :
    ∃ (y : Option Addr) (c : Nat) (l : List Wr), v = .slice y l.length c ∧ IsK wrE w (.slice y l.length c) l ∧ l.length ≤ bdlen d := open_K (E := wrE) wrE_ok bt_cellsWr bt_wr hval hd
/-- The weights of a value, all in reach. -/
def InB {H : Type} (t : TypeId) (d : DataW H) : Prop := ∀ n ∈ d.weights Try.prog t, n ≤ 140737488351232
set_option maxRecDepth 100000 in
theorem inB_all {H : Type} {t : TypeId} {z : DataW H} : ∀ {l : List (DataW H)}, (∀ n ∈ DataW.weightsAll Try.prog t l, n ≤ 140737488351232) → z ∈ l → InB t z
  | a :: r, hl, h => by
    simp only [DataW.weightsAll, List.mem_append] at hl
    rcases List.mem_cons.1 h with rfl | h
    · exact fun n hn => hl n (.inl hn)
    · exact inB_all (fun n hn => hl n (.inr hn)) h
set_option maxRecDepth 100000 in
theorem bt_K {α : Type} {E : EK α} (O : E.Ok) (hcells : Try.prog.cellsOf E.T = E.k) {H : Type} {enc : TypeId × Value → H} {w : World} {base : Nat} {spare : Nat → Bool} {held : Bool}
    (each : ∀ (fuel : Nat) (cs : List Value) (x : DataW H × List MemPlace), DataW.trod enc Try.prog w base spare held fuel E.T cs = some x → ∃ a : α, cs = E.enc a)
    {fuel : Nat} {cv : List Value} {x : DataW H × List MemPlace} (hf : DataW.trod enc Try.prog w base spare held fuel E.S cv = some x) :
    ∃ (y : Option Addr) (c : Nat) (ds : List α), cv = [.slice y ds.length c] ∧ IsK E w (.slice y ds.length c) ds ∧ ds.length ≤ bdlen x.1 := by
  rcases DataW.trod_slice O.und hf with ⟨he, _⟩ | ⟨a, len, cap, elems, rest, n, _, he, hx, _, hl, hm, hlen, hel, _, _⟩
  · exact ⟨none, 0, [], he, ⟨none, 0, rfl, Nat.le_refl _, fun i o h => by simp at h⟩, Nat.zero_le _⟩
  · have one : ∀ j, (hj : j < elems.length) → ∃ q : α, w.cells? base (a.add (j * E.k)) E.k = some (E.enc q) := fun j hj => by
      have h1 := hel j (by omega)
      rw [List.getElem?_eq_getElem hj, hcells, Option.bind_eq_some_iff] at h1
      obtain ⟨cs', hcs, hy⟩ := h1
      obtain ⟨q, rfl⟩ := each _ _ _ hy
      exact ⟨q, hcs⟩
    have hpos : ∀ q : α, 0 < (E.enc q).length := fun q => by rw [O.len]; exact O.kp
    have every : ∀ i, i < len → ∃ q : α, ∃ b o, a = ⟨b, o, none⟩ ∧ b < w.heap.size ∧ w.rangeAt b (o + i * E.k) (E.enc q) := fun i hi => by
      obtain ⟨q, hcs⟩ := one i (by omega)
      obtain ⟨q0, hcs0⟩ := one 0 (by omega)
      have hk := (ob_cells hcs).2
      have hk0 := (ob_cells hcs0).2
      obtain ⟨b, p, s⟩ := a
      have hs : s = none := by
        have := World.cell?_spot (hk0 0 _ (List.getElem?_eq_getElem (hpos q0)))
        simpa [Addr.add] using this
      subst hs
      have hlt := World.block_lt_of_cell? w _ (hk 0 _ (List.getElem?_eq_getElem (hpos q)))
      rw [addr_add, addr_add] at hlt
      refine ⟨q, b, p, rfl, hlt, fun j u hu => ?_⟩
      have k1 := hk j u hu
      rw [addr_add, addr_add] at k1
      exact k1
    obtain ⟨os, hos, hP⟩ := ob_list every
    refine ⟨some a, cap, os, by rw [he, hos], ⟨some a, cap, rfl, by omega, fun i o hi => ?_⟩, ?_⟩
    · obtain ⟨hi', rfl⟩ := List.getElem?_eq_some_iff.1 hi
      obtain ⟨b, p, rfl, h1, h2⟩ := hP i hi'
      exact ⟨b, p, rfl, h1, h2⟩
    · rw [hx]
      simp only [bdlen, List.length_map]
      omega
set_option maxRecDepth 100000 in
theorem bt_wrs {H : Type} {enc : TypeId × Value → H} {w : World} {base : Nat} {spare : Nat → Bool} {held : Bool} {fuel : Nat} {cs : List Value} {x : DataW H × List MemPlace}
    (h : DataW.trod enc Try.prog w base spare held fuel 22 cs = some x) (hR : InB 22 x.1) : ∃ (y : Option Addr) (c : Nat) (l : List Wr), cs = [.slice y l.length c] ∧ IsK wrE w (.slice y l.length c) l ∧ l.length ≤ 1954687338211 := by
  obtain ⟨y, c, l, h1, h2, h3⟩ := bt_K (E := wrE) wrE_ok bt_cellsWr bt_wr h
  refine ⟨y, c, l, h1, h2, ?_⟩
  cases hx : x.1 with
  | slice el sp =>
    rw [hx] at h3 hR
    have h9 := hR ((el.length + sp.length) * Try.prog.bytesOf 29) (by
      simp only [DataW.weights, Try.underlying22]
      simp)
    rw [bt_bytesWr] at h9
    simp only [bdlen] at h3
    omega
  | _ =>
    rw [hx] at h3
    simp only [bdlen] at h3
    omega
set_option maxRecDepth 100000 in
theorem open_wls26 {H : Type} {enc : TypeId × Value → H} {w : World} {base b0 : Nat} {spare : Nat → Bool} {held : Bool} {r : Reach} {v : Value} {d : DataW H} {ps : List MemPlace}
    (hval : Value.okWide Try.prog w r b0 24 v) (hd : DataW.Trod enc Try.prog w base spare held 24 v d ps) {ds : List (DataW H)} {ts : List TypeId} {j : Nat} (h : (DataW.weightsEach Try.prog ts ds).all (fun x => decide (x ≤ reachBytes)) = true) (ht : ts[j]? = some 24) (hdj : ds[j]? = some d) :
    ∃ (y : Option Addr) (c : Nat) (D : List (List Wr)), v = .slice y D.length c ∧ IsLL w (.slice y D.length c) D ∧ D.length ≤ 5864062014634 ∧ ∀ e ∈ D, e.length ≤ 1954687338211 := by
  have hR : InB 24 d := fun n hn => by
    have h9 := of_decide_eq_true (List.all_eq_true.1 h n (DataW.weights_mem_each ht hdj n hn))
    simp only [reachBytes] at h9
    omega
  obtain ⟨a, len, cap, rfl⟩ := okWide_slice Try.underlying24 hval
  obtain ⟨fuel, hf⟩ := hd
  rcases DataW.trod_slice Try.underlying24 hf with ⟨he, _⟩ | ⟨a, len, cap, elems, rest, n, _, he, hx, _, hl, hm, hlen, hel, _, _⟩
  · simp only [Value.cells, List.cons.injEq, and_true] at he
    rw [he]
    exact ⟨none, 0, [], rfl, IsLL.nil w, Nat.zero_le _, fun e h => by simp at h⟩
  · simp only [Value.cells, List.cons.injEq, and_true] at he
    rw [he]
    simp only [Prod.mk.injEq] at hx
    have hwa : ∀ n ∈ DataW.weightsAll Try.prog 22 (elems.map (·.1)), n ≤ 140737488351232 := fun n hn => hR n (by
      rw [hx.1]
      simp only [DataW.weights, Try.underlying24]
      simp [hn])
    have every : ∀ i, i < len → ∃ l : List Wr, ∃ z c, w.cell? (a.add i) = some (.slice z l.length c) ∧ IsK wrE w (.slice z l.length c) l ∧ l.length ≤ 1954687338211 := fun i hi => by
      have h1 := hel i hi
      have h2 : i < elems.length := by omega
      rw [List.getElem?_eq_getElem h2, bt_cellsWrs, Nat.mul_one, Option.bind_eq_some_iff] at h1
      obtain ⟨cs, hcs, hy⟩ := h1
      obtain ⟨z, c, l, rfl, h3, h4⟩ := bt_wrs hy (inB_all hwa (List.mem_map.2 ⟨_, List.getElem_mem h2, rfl⟩))
      have h5 := (ob_cells hcs).2 0 _ rfl
      exact ⟨l, z, c, by simpa [Addr.add] using h5, h3, h4⟩
    obtain ⟨ls, hls, hP⟩ := ob_list every
    have every2 : ∀ i, i < len → ∃ u : Value, w.cell? (a.add i) = some u ∧ ∀ l, ls[i]? = some l → ∃ z c, u = .slice z l.length c ∧ IsK wrE w (.slice z l.length c) l := fun i hi => by
      obtain ⟨z, c, h1, h2, -⟩ := hP i (by omega)
      refine ⟨_, h1, fun l hl => ?_⟩
      rw [List.getElem?_eq_getElem (by omega)] at hl
      cases hl
      exact ⟨z, c, rfl, h2⟩
    obtain ⟨us, hus, hU⟩ := ob_list every2
    refine ⟨some a, cap, ls, by rw [hls], ⟨us, .inr ⟨a, cap, by rw [hls, hus], fun i hi => (hU i hi).1⟩, by rw [hus, hls], fun i e hi => ?_⟩, ?_, fun e he => ?_⟩
    · have hil := (List.getElem?_eq_some_iff.1 hi).1
      obtain ⟨z, c, h1, h2⟩ := (hU i (by omega)).2 e hi
      exact ⟨z, c, by rw [List.getElem?_eq_getElem (by omega), h1], h2⟩
    · have h9 := hR ((elems.length + rest.length) * Try.prog.bytesOf 22) (by
        rw [hx.1]
        simp only [DataW.weights, Try.underlying24, List.length_map]
        simp)
      rw [bt_bytesWrs] at h9
      omega
    · obtain ⟨i, hi⟩ := List.mem_iff_getElem?.1 he
      obtain ⟨hi', rfl⟩ := List.getElem?_eq_some_iff.1 hi
      obtain ⟨z, c, -, -, h3⟩ := hP i hi'
      exact h3
end Go.Proofs.Ytmbkkdojjfdliaa
