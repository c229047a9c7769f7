import Derived.Test.YtgnjokbabecbdaaQOpen
import Derived.Test.YtgnjokbabecbdaaQKel
import Derived.Test.YtgnjokbabecbdaaRows
import Derived.SizedLaws
import Derived.JoinedCond
import Derived.Test.YtgnjokbabecbdaaQMar2
namespace Go.Proofs.Ytgnjokbabecbdaa
open Go.ChangeShapes Go.WideShapes Go.ChangeAt Go.RowKit

/-! Opening slices of plain structs: any element whose cells are read -/
def bdlen {H : Type} : DataW H → Nat
  | .slice el sp => el.length + sp.length
  | _ => 0
theorem ob_list {α : Type} {n : Nat} {P : Nat → α → Prop} (h : ∀ i, i < n → ∃ l, P i l) : ∃ ls : List α, ls.length = n ∧ ∀ i (hi : i < ls.length), P i ls[i] := by
  refine ⟨List.ofFn fun i : Fin n => Classical.choose (h i.1 i.2), by simp, fun i hi => ?_⟩
  have hn : i < n := by simpa using hi
  rw [List.getElem_ofFn]
  exact Classical.choose_spec (h i hn)
theorem ob_cells {w : World} {base : Nat} {a : Addr} {n : Nat} {cs : List Value} (h : w.cells? base a n = some cs) : cs.length = n ∧ ∀ (j : Nat) (u : Value), cs[j]? = some u → w.cell? (a.add j) = some u := by
  unfold World.cells? at h
  split at h
  · have h2 : ∀ (l : List Nat) (cs : List Value), l.mapM (fun j => w.cell? (a.add j)) = some cs → cs.length = l.length ∧ ∀ (j : Nat) (u : Value), cs[j]? = some u → ∃ i : Nat, l[j]? = some i ∧ w.cell? (a.add i) = some u := by
      intro l
      induction l with
      | nil => intro cs h; simp at h; subst h; simp
      | cons x r ih =>
        intro cs h
        simp only [List.mapM_cons, Option.bind_eq_bind, Option.pure_def, Option.bind_eq_some_iff, Option.some.injEq] at h
        obtain ⟨c0, h0, cs', h1, rfl⟩ := h
        obtain ⟨k1, k2⟩ := ih cs' h1
        refine ⟨by simp [k1], fun j u hj => ?_⟩
        cases j with
        | zero => simp at hj; subst hj; exact ⟨x, rfl, h0⟩
        | succ j => simpa using k2 j u (by simpa using hj)
    obtain ⟨k1, k2⟩ := h2 _ _ h
    refine ⟨by simpa using k1, fun j u hj => ?_⟩
    obtain ⟨i, hi, hc⟩ := k2 j u hj
    have hjl : j < n := by
      have := (List.getElem?_eq_some_iff.1 hi).1
      simpa using this
    rw [List.getElem?_range hjl] at hi
    cases hi
    exact hc
  · cases h
theorem open_KP {α : Type} {E : EK α} (O : E.Ok) (hcells : Try.prog.cellsOf E.T = E.k) {H : Type} {enc : TypeId × Value → H} {w : World} {base b0 : Nat} {spare : Nat → Bool} {held : Bool}
    {P : α → Prop} (each : ∀ (fuel : Nat) (cs : List Value) (x : DataW H × List MemPlace), DataW.trod enc Try.prog w base spare held fuel E.T cs = some x → ∃ a : α, cs = E.enc a ∧ P a)
    {r : Reach} {v : Value} {d : DataW H} {ps : List MemPlace}
    (hval : Value.okWide Try.prog w r b0 E.S v) (hd : DataW.Trod enc Try.prog w base spare held E.S v d ps) :
    ∃ (y : Option Addr) (c : Nat) (ds : List α), v = .slice y ds.length c ∧ IsK E w (.slice y ds.length c) ds ∧ ds.length ≤ bdlen d ∧ ∀ a ∈ ds, P a := by
  obtain ⟨a, len, cap, rfl⟩ := okWide_slice O.und hval
  obtain ⟨fuel, hf⟩ := hd
  rcases DataW.trod_slice O.und hf with ⟨he, _⟩ | ⟨a, len, cap, elems, rest, n, _, he, hx, _, hl, hm, hlen, hel, _, _⟩
  · simp only [Value.cells, List.cons.injEq, and_true] at he
    rw [he]
    exact ⟨none, 0, [], rfl, ⟨none, 0, rfl, Nat.le_refl _, fun i o h => by simp at h⟩, Nat.zero_le _, fun a h => by simp at h⟩
  · simp only [Value.cells, List.cons.injEq, and_true] at he
    rw [he]
    simp only [Prod.mk.injEq] at hx
    have every : ∀ i, i < len → ∃ q : α, ∃ b o, a = ⟨b, o, none⟩ ∧ b < w.heap.size ∧ w.rangeAt b (o + i * E.k) (E.enc q) ∧ P q := fun i hi => by
      have h1 := hel i hi
      have h2 : i < elems.length := by omega
      rw [List.getElem?_eq_getElem h2, hcells, Option.bind_eq_some_iff] at h1
      obtain ⟨cs, hcs, hy⟩ := h1
      obtain ⟨q, rfl, hPq⟩ := each _ _ _ hy
      have hk := (ob_cells hcs).2
      have hpos : 0 < (E.enc q).length := by rw [O.len]; exact O.kp
      have k0 := hk 0 _ (List.getElem?_eq_getElem hpos)
      obtain ⟨b, p, s⟩ := a
      have hs : s = none := by
        have h3 := hel 0 (by omega)
        rw [List.getElem?_eq_getElem (show 0 < elems.length by omega), hcells, Option.bind_eq_some_iff] at h3
        obtain ⟨cs', hcs', hy'⟩ := h3
        obtain ⟨q', rfl, -⟩ := each _ _ _ hy'
        have k9 := (ob_cells hcs').2 0 _ (List.getElem?_eq_getElem (show 0 < (E.enc q').length by rw [O.len]; exact O.kp))
        have := World.cell?_spot k9
        simpa [Addr.add] using this
      subst hs
      have hlt := World.block_lt_of_cell? w _ k0
      rw [addr_add, addr_add] at hlt
      refine ⟨q, b, p, rfl, hlt, fun j u hu => ?_, hPq⟩
      have k1 := hk j u hu
      rw [addr_add, addr_add] at k1
      exact k1
    obtain ⟨os, hos, hP⟩ := ob_list every
    refine ⟨some a, cap, os, by rw [hos], ⟨some a, cap, rfl, by omega, fun i o hi => ?_⟩, ?_, ?_⟩
    · obtain ⟨hi', rfl⟩ := List.getElem?_eq_some_iff.1 hi
      obtain ⟨b, p, rfl, h1, h2, -⟩ := hP i hi'
      exact ⟨b, p, rfl, h1, h2⟩
    · rw [hx.1]
      simp only [bdlen, List.length_map]
      omega
    · intro q hq
      obtain ⟨i, hi⟩ := List.mem_iff_getElem?.1 hq
      obtain ⟨hi', rfl⟩ := List.getElem?_eq_some_iff.1 hi
      obtain ⟨b, p, -, -, -, h3⟩ := hP i hi'
      exact h3
theorem open_K {α : Type} {E : EK α} (O : E.Ok) (hcells : Try.prog.cellsOf E.T = E.k) {H : Type} {enc : TypeId × Value → H} {w : World} {base b0 : Nat} {spare : Nat → Bool} {held : Bool}
    (each : ∀ (fuel : Nat) (cs : List Value) (x : DataW H × List MemPlace), DataW.trod enc Try.prog w base spare held fuel E.T cs = some x → ∃ a : α, cs = E.enc a)
    {r : Reach} {v : Value} {d : DataW H} {ps : List MemPlace}
    (hval : Value.okWide Try.prog w r b0 E.S v) (hd : DataW.Trod enc Try.prog w base spare held E.S v d ps) :
    ∃ (y : Option Addr) (c : Nat) (ds : List α), v = .slice y ds.length c ∧ IsK E w (.slice y ds.length c) ds ∧ ds.length ≤ bdlen d := by
  obtain ⟨y, c, ds, h1, h2, h3, -⟩ := open_KP (P := fun _ => True) O hcells (fun f cs x h => by obtain ⟨a, ha⟩ := each f cs x h; exact ⟨a, ha, trivial⟩) hval hd
  exact ⟨y, c, ds, h1, h2, h3⟩
end Go.Proofs.Ytgnjokbabecbdaa
namespace Go.Proofs.Ytgnjokbabecbdaa
open Go.ChangeShapes Go.WideShapes Go.ChangeAt Go.RowKit

/-! Opening []api.Write, []api.Sector, assaylaw09's Burst -/
theorem om_cellsInt : Try.prog.cellsOf 3 = 1 := by kernel_rfl
theorem om_cellsU : Try.prog.cellsOf 23 = 1 := by kernel_rfl
theorem om_cellsWr : Try.prog.cellsOf 34 = 65 := by kernel_rfl
theorem om_bytesWr : Try.prog.bytesOf 34 = 72 := by kernel_rfl
theorem om_bytesSec : Try.prog.bytesOf 28 = 64 := by kernel_rfl
theorem wr_of_trod {H : Type} {enc : TypeId × Value → H} {w : World} {base : Nat} {spare : Nat → Bool} {held : Bool} (fuel : Nat) (cs : List Value) (x : DataW H × List MemPlace)
    (h : DataW.trod enc Try.prog w base spare held fuel wrE.T cs = some x) : ∃ p : Wr, cs = wrE.enc p ∧ i64w p.1 := by
  have h' : DataW.trod enc Try.prog w base spare held fuel 34 cs = some x := h
  obtain ⟨xs, n, _, hx, hl, hn, hg⟩ := DataW.trod_struct Try.underlying34 h'
  have hl65 : cs.length = 65 := by rw [hl]; exact om_cellsWr
  have hn2 : xs.length = 2 := hn
  obtain ⟨c0, cr, rfl⟩ : ∃ a r, cs = a :: r := by
    match cs, hl65 with
    | a :: r, _ => exact ⟨a, r, rfl⟩
  obtain ⟨x0, x1, rfl⟩ : ∃ a b, xs = [a, b] := by
    match xs, hn2 with
    | [a, b], _ => exact ⟨a, b, rfl⟩
  have hr64 : cr.length = 64 := by simpa using hl65
  have g0 : DataW.trod enc Try.prog w base spare held n 3 [c0] = some x0 := by
    have q : DataW.trod enc Try.prog w base spare held n 3 (List.take (Try.prog.cellsOf 3) (List.drop 0 (c0 :: cr))) = some x0 := hg 0 _ rfl
    rw [om_cellsInt] at q
    exact q
  have g1 : DataW.trod enc Try.prog w base spare held n 28 cr = some x1 := by
    have q : DataW.trod enc Try.prog w base spare held n 28 (List.take (Try.prog.cellsOf 28) (List.drop 1 (c0 :: cr))) = some x1 := hg 1 _ rfl
    rw [cells28, List.drop_succ_cons, List.drop_zero, List.take_of_length_le (by omega)] at q
    exact q
  obtain ⟨n0, e0, _, w0⟩ := DataW.trod_int Try.underlying3 g0
  obtain ⟨s, hs⟩ := sec_of_trod g1
  simp only [List.cons.injEq, and_true] at e0
  subst e0
  exact ⟨(n0, s), by rw [wrE_enc, wrA_list, hs], bounds_i64 w0⟩
theorem secE_of_trod {H : Type} {enc : TypeId × Value → H} {w : World} {base : Nat} {spare : Nat → Bool} {held : Bool} (fuel : Nat) (cs : List Value) (x : DataW H × List MemPlace)
    (h : DataW.trod enc Try.prog w base spare held fuel secE.T cs = some x) : ∃ s : Sc, cs = secE.enc s := by
  have h' : DataW.trod enc Try.prog w base spare held fuel 28 cs = some x := h
  obtain ⟨s, hs⟩ := sec_of_trod h'
  exact ⟨s, by rw [secE_enc, hs]⟩
theorem wrb_all {l : List Wr} (h : ∀ a ∈ l, i64w a.1) : WrB l := fun i hi => by
  have : atW l i = l[i].1 := (atW_get (List.getElem?_eq_getElem hi)).1
  rw [this]
  exact h _ (List.getElem_mem hi)
theorem wrs_sized {H : Type} {ds : List (DataW H)} {ts : List TypeId} {d : DataW H} {j : Nat} (h : (DataW.weightsEach Try.prog ts ds).all (fun x => decide (x ≤ reachBytes)) = true) (ht : ts[j]? = some 22) (hd : ds[j]? = some d) :
    bdlen d * 72 ≤ 140737488351232 := by
  cases d with
  | slice el sp =>
    have := List.all_eq_true.1 h _ (DataW.weights_mem_each ht hd ((el.length + sp.length) * Try.prog.bytesOf 34) (by
      simp only [DataW.weights, Try.underlying22]
      simp))
    have h2 := of_decide_eq_true this
    rw [om_bytesWr] at h2
    simp only [reachBytes] at h2
    simp only [bdlen]
    omega
  | _ => simp [bdlen]
theorem secs_sized {H : Type} {ds : List (DataW H)} {ts : List TypeId} {d : DataW H} {j : Nat} (h : (DataW.weightsEach Try.prog ts ds).all (fun x => decide (x ≤ reachBytes)) = true) (ht : ts[j]? = some 32) (hd : ds[j]? = some d) :
    bdlen d * 64 ≤ 140737488351232 := by
  cases d with
  | slice el sp =>
    have := List.all_eq_true.1 h _ (DataW.weights_mem_each ht hd ((el.length + sp.length) * Try.prog.bytesOf 28) (by
      simp only [DataW.weights, Try.underlying32]
      simp))
    have h2 := of_decide_eq_true this
    rw [om_bytesSec] at h2
    simp only [reachBytes] at h2
    simp only [bdlen]
    omega
  | _ => simp [bdlen]
theorem open_burst9 {H : Type} {enc : TypeId × Value → H} {w : World} {base b0 : Nat} {spare : Nat → Bool} {held : Bool} {r : Reach} {v : Value} {d : DataW H} {ps : List MemPlace}
    (hval : Value.okWide Try.prog w r b0 25 v) (hd : DataW.Trod enc Try.prog w base spare held 25 v d ps) :
    ∃ (n a : Int) (m : Nat), v = .agg (buA9 n a m) ∧ i64w n ∧ i64w a ∧ m < 4294967296 := by
  obtain ⟨cs, rfl, _⟩ := okWide_struct Try.underlying25 hval
  obtain ⟨fuel, hf⟩ := hd
  obtain ⟨xs, n, _, hx, hl, hn, hg⟩ := DataW.trod_struct Try.underlying25 hf
  have hl3 : cs.toList.length = 3 := by rw [show (Value.agg cs).cells = cs from rfl] at hl; rw [hl]; kernel_rfl
  have hn3 : xs.length = 3 := hn
  obtain ⟨c0, c1, c2, hcs⟩ : ∃ a b c, cs.toList = [a, b, c] := by
    match hq : cs.toList, hl3 with
    | [a, b, c], _ => exact ⟨a, b, c, rfl⟩
  obtain ⟨x0, x1, x2, rfl⟩ : ∃ a b c, xs = [a, b, c] := by
    match xs, hn3 with
    | [a, b, c], _ => exact ⟨a, b, c, rfl⟩
  rw [show (Value.agg cs).cells = cs from rfl, hcs] at hg
  have g0 : DataW.trod enc Try.prog w base spare held n 3 [c0] = some x0 := by
    have q : DataW.trod enc Try.prog w base spare held n 3 (List.take (Try.prog.cellsOf 3) (List.drop 0 [c0, c1, c2])) = some x0 := hg 0 _ rfl
    rw [om_cellsInt] at q
    exact q
  have g1 : DataW.trod enc Try.prog w base spare held n 3 [c1] = some x1 := by
    have q : DataW.trod enc Try.prog w base spare held n 3 (List.take (Try.prog.cellsOf 3) (List.drop 1 [c0, c1, c2])) = some x1 := hg 1 _ rfl
    rw [om_cellsInt] at q
    exact q
  have g2 : DataW.trod enc Try.prog w base spare held n 23 [c2] = some x2 := by
    have q : DataW.trod enc Try.prog w base spare held n 23 (List.take (Try.prog.cellsOf 23) (List.drop 2 [c0, c1, c2])) = some x2 := hg 2 _ rfl
    rw [om_cellsU] at q
    exact q
  obtain ⟨n0, e0, _, w0⟩ := DataW.trod_int Try.underlying3 g0
  obtain ⟨n1, e1, _, w1⟩ := DataW.trod_int Try.underlying3 g1
  obtain ⟨n2, e2, _, w2⟩ := DataW.trod_int Try.underlying23 g2
  have b2 := bounds_u32 w2
  obtain ⟨m, rfl⟩ := Int.eq_ofNat_of_zero_le (show 0 ≤ n2 by omega)
  simp only [List.cons.injEq, and_true] at e0 e1 e2
  subst e0 e1 e2
  refine ⟨n0, n1, m, ?_, bounds_i64 w0, bounds_i64 w1, by omega⟩
  have : cs = (buA9 n0 n1 m) := by
    apply Array.toList_inj.1
    rw [hcs]; rfl
  rw [this]
end Go.Proofs.Ytgnjokbabecbdaa
