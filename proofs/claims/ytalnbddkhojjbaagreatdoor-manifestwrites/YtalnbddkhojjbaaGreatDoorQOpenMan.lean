import Derived.Test.YtalnbddkhojjbaaGreatDoorQApp
import Derived.Test.YtalnbddkhojjbaaGreatDoorQOpenDig
namespace Go.Proofs.YtalnbddkhojjbaaGreatDoor
open Go.ChangeShapes Go.WideShapes Go.ChangeAt Go.RowKit

/-! Opening []api.Desc -/
theorem oq_cellsInt : Tryz.prog.cellsOf 3 = 1 := by kernel_rfl
theorem oq_cellsDg : Tryz.prog.cellsOf 33 = 32 := by kernel_rfl
theorem oq_cellsDc : Tryz.prog.cellsOf 35 = 33 := by kernel_rfl
theorem oq_bytesDc : Tryz.prog.bytesOf 35 = 40 := by kernel_rfl
theorem dcA_list (e : Dc) : (dcA e).toList = (dg_secA e.key).toList ++ [.int .i64 e.size] := by
  unfold dcA
  generalize dg_secA e.key = D
  rw [Array.toList_append]
set_option maxRecDepth 100000 in
theorem dc_of_trod {H : Type} {enc : TypeId × Value → H} {w : World} {base : Nat} {spare : Nat → Bool} {held : Bool} (fuel : Nat) (cs : List Value) (x : DataW H × List MemPlace)
    (h : DataW.trod enc Tryz.prog w base spare held fuel dcE.T cs = some x) : ∃ p : Dc, cs = dcE.enc p := by
  have h' : DataW.trod enc Tryz.prog w base spare held fuel 35 cs = some x := h
  obtain ⟨xs, n, _, hx, hl, hn, hg⟩ := DataW.trod_struct Tryz.underlying35 h'
  have hl33 : cs.length = 33 := by rw [hl]; exact oq_cellsDc
  have hn2 : xs.length = 2 := hn
  obtain ⟨x0, x1, rfl⟩ : ∃ a b, xs = [a, b] := by
    match xs, hn2 with
    | [a, b], _ => exact ⟨a, b, rfl⟩
  have g0 : DataW.trod enc Tryz.prog w base spare held n 33 (cs.take 32) = some x0 := by
    have q : DataW.trod enc Tryz.prog w base spare held n 33 (List.take (Tryz.prog.cellsOf 33) (List.drop 0 cs)) = some x0 := hg 0 _ rfl
    rw [oq_cellsDg, List.drop_zero] at q
    exact q
  have g1 : DataW.trod enc Tryz.prog w base spare held n 3 (cs.drop 32) = some x1 := by
    have q : DataW.trod enc Tryz.prog w base spare held n 3 (List.take (Tryz.prog.cellsOf 3) (List.drop 32 cs)) = some x1 := hg 1 _ rfl
    rw [oq_cellsInt, List.take_of_length_le (by rw [List.length_drop]; omega)] at q
    exact q
  obtain ⟨s, hs⟩ := dg_of_trod g0
  obtain ⟨k, hk, _, _⟩ := DataW.trod_int Tryz.underlying3 g1
  refine ⟨⟨s, k⟩, ?_⟩
  have e1 : dcE.enc ⟨s, k⟩ = (dcA ⟨s, k⟩).toList := by simp only [dcE]
  rw [e1, dcA_list, ← hs, ← hk, List.take_append_drop]
set_option maxRecDepth 100000 in
theorem dcs_sized {H : Type} {ds : List (DataW H)} {ts : List TypeId} {d : DataW H} {j : Nat} (h : (DataW.weightsEach Tryz.prog ts ds).all (fun x => decide (x ≤ reachBytes)) = true) (ht : ts[j]? = some 22) (hd : ds[j]? = some d) :
    bdlen d * 40 ≤ 140737488351232 := by
  cases d with
  | slice el sp =>
    have := List.all_eq_true.1 h _ (DataW.weights_mem_each ht hd ((el.length + sp.length) * Tryz.prog.bytesOf 35) (by
      simp only [DataW.weights, Tryz.underlying22]
      simp))
    have h2 := of_decide_eq_true this
    rw [oq_bytesDc] at h2
    simp only [reachBytes] at h2
    simp only [bdlen]
    omega
  | _ => simp [bdlen]
end Go.Proofs.YtalnbddkhojjbaaGreatDoor
