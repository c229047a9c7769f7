import Derived.Test.YtpckdkgbeemalaaQOpenGen
import Derived.Test.YtpckdkgbeemalaaQMar1
namespace Go.Proofs.Ytpckdkgbeemalaa
open Go.ChangeShapes Go.WideShapes Go.ChangeAt Go.RowKit

/-! Opening []api.Write, []api.Sector, assaylaw09's Burst -/
theorem om_cellsInt : Try.prog.cellsOf 3 = 1 := by kernel_rfl
theorem om_cellsU : Try.prog.cellsOf 88 = 1 := by kernel_rfl
theorem om_cellsWr : Try.prog.cellsOf 54 = 65 := by kernel_rfl
theorem om_bytesWr : Try.prog.bytesOf 54 = 72 := by kernel_rfl
theorem om_bytesSec : Try.prog.bytesOf 44 = 64 := by kernel_rfl
set_option maxRecDepth 100000 in
theorem wr_of_trod {H : Type} {enc : TypeId × Value → H} {w : World} {base : Nat} {spare : Nat → Bool} {held : Bool} (fuel : Nat) (cs : List Value) (x : DataW H × List MemPlace)
    (h : DataW.trod enc Try.prog w base spare held fuel wrE.T cs = some x) : ∃ p : Wr, cs = wrE.enc p ∧ i64w p.1 := by
  have h' : DataW.trod enc Try.prog w base spare held fuel 54 cs = some x := h
  obtain ⟨xs, n, _, hx, hl, hn, hg⟩ := DataW.trod_struct Try.underlying54 h'
  have hl65 : cs.length = 65 := by rw [hl]; exact om_cellsWr
  have hn2 : xs.length = 2 := hn
  obtain ⟨c0, cr, rfl⟩ : ∃ a r, cs = a :: r := by
    match cs, hl65 with
    | a :: r, _ => exact ⟨a, r, rfl⟩
  obtain ⟨x0, x1, rfl⟩ : ∃ a b, xs = [a, b] := by
    match xs, hn2 with
    | [a, b], _ => exact ⟨a, b, rfl⟩
  have hr64 : cr.length = 64 := by simpa using hl65
  have g0 : DataW.trod enc Try.prog w base spare held n 3 [c0] = some x0 := by
    have q : DataW.trod enc Try.prog w base spare held n 3 (List.take (Try.prog.cellsOf 3) (List.drop 0 (c0 :: cr))) = some x0 := hg 0 _ rfl
    rw [om_cellsInt] at q
    exact q
  have g1 : DataW.trod enc Try.prog w base spare held n 44 cr = some x1 := by
    have q : DataW.trod enc Try.prog w base spare held n 44 (List.take (Try.prog.cellsOf 44) (List.drop 1 (c0 :: cr))) = some x1 := hg 1 _ rfl
    rw [cells44, List.drop_succ_cons, List.drop_zero, List.take_of_length_le (by omega)] at q
    exact q
  obtain ⟨n0, e0, _, w0⟩ := DataW.trod_int Try.underlying3 g0
  obtain ⟨s, hs⟩ := sec_of_trod g1
  simp only [List.cons.injEq, and_true] at e0
  subst e0
  exact ⟨(n0, s), by rw [wrE_enc, wrA_list, hs], bounds_i64 w0⟩
set_option maxRecDepth 100000 in
theorem secE_of_trod {H : Type} {enc : TypeId × Value → H} {w : World} {base : Nat} {spare : Nat → Bool} {held : Bool} (fuel : Nat) (cs : List Value) (x : DataW H × List MemPlace)
    (h : DataW.trod enc Try.prog w base spare held fuel secE.T cs = some x) : ∃ s : Sc, cs = secE.enc s := by
  have h' : DataW.trod enc Try.prog w base spare held fuel 44 cs = some x := h
  obtain ⟨s, hs⟩ := sec_of_trod h'
  exact ⟨s, by rw [secE_enc, hs]⟩
theorem wrb_all {l : List Wr} (h : ∀ a ∈ l, i64w a.1) : WrB l := fun i hi => by
  have : atW l i = l[i].1 := (atW_get (List.getElem?_eq_getElem hi)).1
  rw [this]
  exact h _ (List.getElem_mem hi)
set_option maxRecDepth 100000 in
theorem wrs_sized {H : Type} {ds : List (DataW H)} {ts : List TypeId} {d : DataW H} {j : Nat} (h : (DataW.weightsEach Try.prog ts ds).all (fun x => decide (x ≤ reachBytes)) = true) (ht : ts[j]? = some 23) (hd : ds[j]? = some d) :
    bdlen d * 72 ≤ 140737488351232 := by
  cases d with
  | slice el sp =>
    have := List.all_eq_true.1 h _ (DataW.weights_mem_each ht hd ((el.length + sp.length) * Try.prog.bytesOf 54) (by
      simp only [DataW.weights, Try.underlying23]
      simp))
    have h2 := of_decide_eq_true this
    rw [om_bytesWr] at h2
    simp only [reachBytes] at h2
    simp only [bdlen]
    omega
  | _ => simp [bdlen]
set_option maxRecDepth 100000 in
theorem secs_sized {H : Type} {ds : List (DataW H)} {ts : List TypeId} {d : DataW H} {j : Nat} (h : (DataW.weightsEach Try.prog ts ds).all (fun x => decide (x ≤ reachBytes)) = true) (ht : ts[j]? = some 32) (hd : ds[j]? = some d) :
    bdlen d * 64 ≤ 140737488351232 := by
  cases d with
  | slice el sp =>
    have := List.all_eq_true.1 h _ (DataW.weights_mem_each ht hd ((el.length + sp.length) * Try.prog.bytesOf 44) (by
      simp only [DataW.weights, Try.underlying32]
      simp))
    have h2 := of_decide_eq_true this
    rw [om_bytesSec] at h2
    simp only [reachBytes] at h2
    simp only [bdlen]
    omega
  | _ => simp [bdlen]
end Go.Proofs.Ytpckdkgbeemalaa
