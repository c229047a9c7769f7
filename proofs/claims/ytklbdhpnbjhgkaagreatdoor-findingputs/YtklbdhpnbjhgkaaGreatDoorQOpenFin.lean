import Derived.Test.YtklbdhpnbjhgkaaGreatDoorQOpenGen
import Derived.Test.YtklbdhpnbjhgkaaGreatDoorQOpenSha
import Derived.Test.YtklbdhpnbjhgkaaGreatDoorQFib
namespace Go.Proofs.YtklbdhpnbjhgkaaGreatDoor
open Go.ChangeShapes Go.WideShapes Go.ChangeAt Go.RowKit

/-! Opening api.Report, []api.Finding -/
theorem oz_cellsDg : Tryz.prog.cellsOf 50 = 32 := by kernel_rfl
theorem oz_cellsFd : Tryz.prog.cellsOf 25 = 2 := by kernel_rfl
theorem oz_cellsFs : Tryz.prog.cellsOf 22 = 1 := by kernel_rfl
theorem oz_cellsDs : Tryz.prog.cellsOf 29 = 1 := by kernel_rfl
theorem oz_cellsIs : Tryz.prog.cellsOf 30 = 1 := by kernel_rfl
theorem oz_bytesDg : Tryz.prog.bytesOf 50 = 32 := by kernel_rfl
theorem oz_bytesFd : Tryz.prog.bytesOf 25 = 16 := by kernel_rfl
def cnD (d : Dg) : Dg := fun k => if k < 32 then d k else 0
theorem cnD_can (d : Dg) : CanD (cnD d) := fun k hk => by unfold cnD; rw [if_neg (by omega)]
theorem cnD_enc (d : Dg) : dg_secA (cnD d) = dg_secA d := (dg_secA_inj _ _).2 fun i hi => by unfold cnD; rw [if_pos hi]
set_option maxRecDepth 100000 in
theorem oz_dg {H : Type} {enc : TypeId × Value → H} {w : World} {base : Nat} {spare : Nat → Bool} {held : Bool} {fuel : Nat} {cs : List Value} {x : DataW H × List MemPlace}
    (h : DataW.trod enc Tryz.prog w base spare held fuel 50 cs = some x) : ∃ s, cs = (dg_secA s).toList := by
  obtain ⟨xs, m, _, _, hl, hn, hx⟩ := DataW.trod_array Tryz.underlying50 h
  rw [oz_cellsDg] at hl
  obtain ⟨s, hs⟩ := dg_secA_of cs.toArray (by simpa using hl) (fun i hi => by
    have h1 := hx i hi
    rw [cells5, Nat.mul_one, List.getElem?_eq_getElem (by omega)] at h1
    obtain ⟨n, hc, _, hw⟩ := DataW.trod_int Tryz.underlying5 h1
    refine ⟨n, ?_, u8_bounds hw⟩
    have h2 : ((cs.drop i).take 1)[0]? = some (Value.int .u8 n) := by rw [hc]; rfl
    rw [List.getElem?_take, if_pos (by omega), List.getElem?_drop] at h2
    simpa using h2)
  exact ⟨s, by rw [← hs]⟩
set_option maxRecDepth 100000 in
theorem dg_each22 {H : Type} {enc : TypeId × Value → H} {w : World} {base : Nat} {spare : Nat → Bool} {held : Bool} (fuel : Nat) (cs : List Value) (x : DataW H × List MemPlace)
    (h : DataW.trod enc Tryz.prog w base spare held fuel dgE.T cs = some x) : ∃ a : Dg, cs = dgE.enc a ∧ CanD a := by
  obtain ⟨s, hs⟩ := oz_dg (show DataW.trod enc Tryz.prog w base spare held fuel 50 cs = some x from h)
  exact ⟨cnD s, by rw [dgE_enc, cnD_enc]; exact hs, cnD_can s⟩
set_option maxRecDepth 100000 in
theorem fd_each22 {H : Type} {enc : TypeId × Value → H} {w : World} {base : Nat} {spare : Nat → Bool} {held : Bool} (fuel : Nat) (cs : List Value) (x : DataW H × List MemPlace)
    (h : DataW.trod enc Tryz.prog w base spare held fuel fdE.T cs = some x) : ∃ a : Fd, cs = fdE.enc a ∧ True := by
  have h' : DataW.trod enc Tryz.prog w base spare held fuel 25 cs = some x := h
  obtain ⟨xs, n, _, hx, hl, hn, hg⟩ := DataW.trod_struct Tryz.underlying25 h'
  have hl2 : cs.length = 2 := by rw [hl]; exact oz_cellsFd
  have hn2 : xs.length = 2 := hn
  obtain ⟨c0, c1, rfl⟩ : ∃ a b, cs = [a, b] := by
    match cs, hl2 with
    | [a, b], _ => exact ⟨a, b, rfl⟩
  obtain ⟨x0, x1, rfl⟩ : ∃ a b, xs = [a, b] := by
    match xs, hn2 with
    | [a, b], _ => exact ⟨a, b, rfl⟩
  have g0 : DataW.trod enc Tryz.prog w base spare held n 3 [c0] = some x0 := by
    have q : DataW.trod enc Tryz.prog w base spare held n 3 (List.take (Tryz.prog.cellsOf 3) (List.drop 0 [c0, c1])) = some x0 := hg 0 _ rfl
    rw [cellsInt] at q
    exact q
  have g1 : DataW.trod enc Tryz.prog w base spare held n 3 [c1] = some x1 := by
    have q : DataW.trod enc Tryz.prog w base spare held n 3 (List.take (Tryz.prog.cellsOf 3) (List.drop 1 [c0, c1])) = some x1 := hg 1 _ rfl
    rw [cellsInt] at q
    exact q
  obtain ⟨n0, e0, _, _⟩ := DataW.trod_int Tryz.underlying3 g0
  obtain ⟨n1, e1, _, _⟩ := DataW.trod_int Tryz.underlying3 g1
  simp only [List.cons.injEq, and_true] at e0 e1
  subst e0 e1
  exact ⟨(n0, n1), by rw [fdE_enc]; rfl, trivial⟩
set_option maxRecDepth 100000 in
/-- A slice among the cells of a struct. -/
theorem trod_K22 {α : Type} {E : EK α} (O : E.Ok) (hcells : Tryz.prog.cellsOf E.T = E.k) {H : Type} {enc : TypeId × Value → H} {w : World} {base : Nat} {spare : Nat → Bool} {held : Bool}
    {P : α → Prop} (each : ∀ (fuel : Nat) (cs : List Value) (x : DataW H × List MemPlace), DataW.trod enc Tryz.prog w base spare held fuel E.T cs = some x → ∃ a : α, cs = E.enc a ∧ P a)
    {fuel : Nat} {cs : List Value} {x : DataW H × List MemPlace} (hf : DataW.trod enc Tryz.prog w base spare held fuel E.S cs = some x) :
    ∃ (y : Option Addr) (c : Nat) (ds : List α), cs = [.slice y ds.length c] ∧ IsK E w (.slice y ds.length c) ds ∧ ds.length ≤ bdlen x.1 ∧ ∀ a ∈ ds, P a := by
  rcases DataW.trod_slice O.und hf with ⟨he, _⟩ | ⟨a, len, cap, elems, rest, n, _, he, hx, _, hl, hm, hlen, hel, _, _⟩
  · rw [he]
    exact ⟨none, 0, [], rfl, ⟨none, 0, rfl, Nat.le_refl _, fun i o h => by simp at h⟩, Nat.zero_le _, fun a h => by simp at h⟩
  · rw [he]
    have every : ∀ i, i < len → ∃ q : α, ∃ b o, a = ⟨b, o, none⟩ ∧ b < w.heap.size ∧ w.rangeAt b (o + i * E.k) (E.enc q) ∧ P q := fun i hi => by
      have h1 := hel i hi
      have h2 : i < elems.length := by omega
      rw [List.getElem?_eq_getElem h2, hcells, Option.bind_eq_some_iff] at h1
      obtain ⟨cs, hcs, hy⟩ := h1
      obtain ⟨q, rfl, hPq⟩ := each _ _ _ hy
      have hk := (ob_cells hcs).2
      have hpos : 0 < (E.enc q).length := by rw [O.len]; exact O.kp
      have k0 := hk 0 _ (List.getElem?_eq_getElem hpos)
      obtain ⟨b, p, s⟩ := a
      have hs : s = none := by
        have h3 := hel 0 (by omega)
        rw [List.getElem?_eq_getElem (show 0 < elems.length by omega), hcells, Option.bind_eq_some_iff] at h3
        obtain ⟨cs', hcs', hy'⟩ := h3
        obtain ⟨q', rfl, -⟩ := each _ _ _ hy'
        have k9 := (ob_cells hcs').2 0 _ (List.getElem?_eq_getElem (show 0 < (E.enc q').length by rw [O.len]; exact O.kp))
        have := World.cell?_spot k9
        simpa [Addr.add] using this
      subst hs
      have hlt := World.block_lt_of_cell? w _ k0
      rw [addr_add, addr_add] at hlt
      refine ⟨q, b, p, rfl, hlt, fun j u hu => ?_, hPq⟩
      have k1 := hk j u hu
      rw [addr_add, addr_add] at k1
      exact k1
    obtain ⟨os, hos, hP⟩ := ob_list every
    refine ⟨some a, cap, os, by rw [hos], ⟨some a, cap, rfl, by omega, fun i o hi => ?_⟩, ?_, ?_⟩
    · obtain ⟨hi', rfl⟩ := List.getElem?_eq_some_iff.1 hi
      obtain ⟨b, p, rfl, h1, h2, -⟩ := hP i hi'
      exact ⟨b, p, rfl, h1, h2⟩
    · rw [hx]
      simp only [bdlen, List.length_map]
      omega
    · intro q hq
      obtain ⟨i, hi⟩ := List.mem_iff_getElem?.1 hq
      obtain ⟨hi', rfl⟩ := List.getElem?_eq_some_iff.1 hi
      obtain ⟨b, p, -, -, -, h3⟩ := hP i hi'
      exact h3
set_option maxRecDepth 100000 in
theorem trod_I22 {H : Type} {enc : TypeId × Value → H} {w : World} {base : Nat} {spare : Nat → Bool} {held : Bool} {fuel : Nat} {cs : List Value} {x : DataW H × List MemPlace}
    (hf : DataW.trod enc Tryz.prog w base spare held fuel 30 cs = some x) :
    ∃ (y : Option Addr) (c : Nat) (zs : List Int), cs = [.slice y zs.length c] ∧ IsG w (.slice y zs.length c) (inV zs) ∧ zs.length ≤ dlen x.1 := by
  rcases open_ints Tryz.underlying30 Tryz.underlying3 cellsInt hf with ⟨he, hd⟩ | ⟨a, len, cap, zs, he, _, hl, hm, hz, hd, hcell, hwz⟩
  · rw [he]
    exact ⟨none, 0, [], rfl, .inl ⟨rfl, rfl⟩, Nat.zero_le _⟩
  · rw [he]
    have hlz : len ≤ zs.length := by rw [hz]; split <;> omega
    have hll : (zs.take len).length = len := by simp; omega
    refine ⟨some a, cap, zs.take len, by rw [hll], .inr ⟨a, cap, by rw [inV_len], fun i hi => ?_⟩, by rw [hll]; cases hd; simp [dlen, lits]; omega⟩
    rw [inV_len, hll] at hi
    rw [hcell i (by omega)]
    have : i < zs.length := by omega
    simp [inV, List.getD, this]
set_option maxRecDepth 100000 in
theorem open_rep22 {H : Type} {enc : TypeId × Value → H} {w : World} {base b0 : Nat} {spare : Nat → Bool} {held : Bool} {rc : Reach} {v : Value} {d : DataW H} {ps : List MemPlace}
    (hval : Value.okWide Tryz.prog w rc b0 32 v) (hd : DataW.Trod enc Tryz.prog w base spare held 32 v d ps) :
    ∃ (r : Rp) (xf : Option Addr) (nf cf : Nat) (xd : Option Addr) (nd cd : Nat) (xi : Option Addr) (ni ci : Nat) (d0 d1 d2 d3 : DataW H), v = .agg (rpA r.st (.slice xf nf cf) (.slice xd nd cd) (.slice xi ni ci)) ∧ d = .agg [d0, d1, d2, d3] ∧ RpI w r xf nf cf xd nd cd xi ni ci ∧ RpC r ∧ nf ≤ bdlen d1 ∧ nd ≤ bdlen d2 ∧ ni ≤ dlen d3 := by
  obtain ⟨cs, rfl, _⟩ := okWide_struct Tryz.underlying32 hval
  obtain ⟨fuel, hf⟩ := hd
  obtain ⟨xs, n, _, hx, hl, hn, hg⟩ := DataW.trod_struct Tryz.underlying32 hf
  have hl4 : cs.toList.length = 4 := by rw [show (Value.agg cs).cells = cs from rfl] at hl; rw [hl]; kernel_rfl
  have hn4 : xs.length = 4 := hn
  obtain ⟨c0, c1, c2, c3, hcs⟩ : ∃ a b c d, cs.toList = [a, b, c, d] := by
    match hq : cs.toList, hl4 with
    | [a, b, c, d], _ => exact ⟨a, b, c, d, rfl⟩
  obtain ⟨x0, x1, x2, x3, rfl⟩ : ∃ a b c d, xs = [a, b, c, d] := by
    match xs, hn4 with
    | [a, b, c, d], _ => exact ⟨a, b, c, d, rfl⟩
  rw [show (Value.agg cs).cells = cs from rfl, hcs] at hg
  have g0 : DataW.trod enc Tryz.prog w base spare held n 3 [c0] = some x0 := by
    have q : DataW.trod enc Tryz.prog w base spare held n 3 (List.take (Tryz.prog.cellsOf 3) (List.drop 0 [c0, c1, c2, c3])) = some x0 := hg 0 _ rfl
    rw [cellsInt] at q
    exact q
  have g1 : DataW.trod enc Tryz.prog w base spare held n 22 [c1] = some x1 := by
    have q : DataW.trod enc Tryz.prog w base spare held n 22 (List.take (Tryz.prog.cellsOf 22) (List.drop 1 [c0, c1, c2, c3])) = some x1 := hg 1 _ rfl
    rw [oz_cellsFs] at q
    exact q
  have g2 : DataW.trod enc Tryz.prog w base spare held n 29 [c2] = some x2 := by
    have q : DataW.trod enc Tryz.prog w base spare held n 29 (List.take (Tryz.prog.cellsOf 29) (List.drop 2 [c0, c1, c2, c3])) = some x2 := hg 2 _ rfl
    rw [oz_cellsDs] at q
    exact q
  have g3 : DataW.trod enc Tryz.prog w base spare held n 30 [c3] = some x3 := by
    have q : DataW.trod enc Tryz.prog w base spare held n 30 (List.take (Tryz.prog.cellsOf 30) (List.drop 3 [c0, c1, c2, c3])) = some x3 := hg 3 _ rfl
    rw [oz_cellsIs] at q
    exact q
  obtain ⟨n0, e0, _, _⟩ := DataW.trod_int Tryz.underlying3 g0
  obtain ⟨xf, cf, fs, e1, k1, s1, -⟩ := trod_K22 fdE_ok oz_cellsFd fd_each22 (show DataW.trod enc Tryz.prog w base spare held n fdE.S [c1] = some x1 from g1)
  obtain ⟨xd, cd, ds, e2, k2, s2, p2⟩ := trod_K22 dgE_ok oz_cellsDg dg_each22 (show DataW.trod enc Tryz.prog w base spare held n dgE.S [c2] = some x2 from g2)
  obtain ⟨xi, ci, zs, e3, k3, s3⟩ := trod_I22 g3
  simp only [List.cons.injEq, and_true] at e0 e1 e2 e3
  subst e0 e1 e2 e3
  simp only [Prod.mk.injEq] at hx
  refine ⟨⟨n0, fs, ds, zs⟩, xf, fs.length, cf, xd, ds.length, cd, xi, zs.length, ci, x0.1, x1.1, x2.1, x3.1, ?_, hx.1, ⟨k1, k2, k3, rfl, rfl, rfl⟩, p2, s1, s2, s3⟩
  have : cs = rpA n0 (.slice xf fs.length cf) (.slice xd ds.length cd) (.slice xi zs.length ci) := by
    apply Array.toList_inj.1; exact hcs
  rw [this]
set_option maxRecDepth 100000 in
/-- The reach of the form pays for a report's lists. -/
theorem rep_sized22 {H : Type} {ds : List (DataW H)} {ts : List TypeId} {d0 d1 d2 d3 : DataW H} {j : Nat} (h : (DataW.weightsEach Tryz.prog ts ds).all (fun x => decide (x ≤ reachBytes)) = true) (ht : ts[j]? = some 32) (hd : ds[j]? = some (.agg [d0, d1, d2, d3])) :
    bdlen d1 * 16 ≤ 140737488351232 ∧ bdlen d2 * 32 ≤ 140737488351232 ∧ dlen d3 * 8 ≤ 140737488351232 := by
  refine ⟨?_, ?_, ?_⟩
  · cases d1 with
    | slice el sp =>
      have := List.all_eq_true.1 h _ (DataW.weights_mem_each ht hd ((el.length + sp.length) * Tryz.prog.bytesOf 25) (by
        simp only [DataW.weights, Tryz.underlying32, DataW.weightsEach, List.map_cons, List.map_nil, Tryz.underlying22]
        simp))
      have h2 := of_decide_eq_true this
      rw [oz_bytesFd] at h2
      simp only [reachBytes] at h2
      simp only [bdlen]
      omega
    | _ => simp [bdlen]
  · cases d2 with
    | slice el sp =>
      have := List.all_eq_true.1 h _ (DataW.weights_mem_each ht hd ((el.length + sp.length) * Tryz.prog.bytesOf 50) (by
        simp only [DataW.weights, Tryz.underlying32, DataW.weightsEach, List.map_cons, List.map_nil, Tryz.underlying29]
        simp))
      have h2 := of_decide_eq_true this
      rw [oz_bytesDg] at h2
      simp only [reachBytes] at h2
      simp only [bdlen]
      omega
    | _ => simp [bdlen]
  · cases d3 with
    | slice el sp =>
      have := List.all_eq_true.1 h _ (DataW.weights_mem_each ht hd ((el.length + sp.length) * Tryz.prog.bytesOf 3) (by
        simp only [DataW.weights, Tryz.underlying32, DataW.weightsEach, List.map_cons, List.map_nil, Tryz.underlying30]
        simp))
      have h2 := of_decide_eq_true this
      rw [bytesInt] at h2
      simp only [reachBytes] at h2
      simp only [dlen]
      omega
    | _ => simp [dlen]
set_option maxRecDepth 100000 in
theorem fds_sized22 {H : Type} {ds : List (DataW H)} {ts : List TypeId} {d : DataW H} {j : Nat} (h : (DataW.weightsEach Tryz.prog ts ds).all (fun x => decide (x ≤ reachBytes)) = true) (ht : ts[j]? = some 22) (hd : ds[j]? = some d) :
    bdlen d * 16 ≤ 140737488351232 := by
  cases d with
  | slice el sp =>
    have := List.all_eq_true.1 h _ (DataW.weights_mem_each ht hd ((el.length + sp.length) * Tryz.prog.bytesOf 25) (by
      simp only [DataW.weights, Tryz.underlying22]
      simp))
    have h2 := of_decide_eq_true this
    rw [oz_bytesFd] at h2
    simp only [reachBytes] at h2
    simp only [bdlen]
    omega
  | _ => simp [bdlen]
set_option maxRecDepth 100000 in
theorem open_fds22 {H : Type} {enc : TypeId × Value → H} {w : World} {base b0 : Nat} {spare : Nat → Bool} {held : Bool} {r : Reach} {v : Value} {d : DataW H} {ps : List MemPlace}
    (hval : Value.okWide Tryz.prog w r b0 22 v) (hd : DataW.Trod enc Tryz.prog w base spare held 22 v d ps) :
    ∃ (y : Option Addr) (c : Nat) (ds : List Fd), v = .slice y ds.length c ∧ IsK fdE w (.slice y ds.length c) ds ∧ ds.length ≤ bdlen d :=
  open_K (E := fdE) fdE_ok oz_cellsFd (fun f cs x h => by obtain ⟨a, ha, -⟩ := fd_each22 f cs x h; exact ⟨a, ha⟩) hval hd
end Go.Proofs.YtklbdhpnbjhgkaaGreatDoor
