
import Derived.Test.YtafbkdpheneceaaOpenGen
import Derived.Test.YtafbkdpheneceaaExtC
namespace Go.Proofs.Ytafbkdpheneceaa
open Go.ChangeShapes Go.WideShapes Go.ChangeAt Go.RowKit

/-! Opening []assaylaw08.Op, []int -/
theorem ox_cellsInt : Try.prog.cellsOf 3 = 1 := by kernel_rfl
theorem ox_cellsOp : Try.prog.cellsOf 29 = 4 := by kernel_rfl
theorem ox_bytesInt : Try.prog.bytesOf 3 = 8 := by kernel_rfl
theorem ox_bytesOp : Try.prog.bytesOf 29 = 32 := by kernel_rfl
theorem op8_of_trod {H : Type} {enc : TypeId × Value → H} {w : World} {base : Nat} {spare : Nat → Bool} {held : Bool} (fuel : Nat) (cs : List Value) (x : DataW H × List MemPlace)
    (h : DataW.trod enc Try.prog w base spare held fuel opE8.T cs = some x) : ∃ p : Op8, cs = opE8.enc p ∧ p.Ok := by
  have h' : DataW.trod enc Try.prog w base spare held fuel 29 cs = some x := h
  obtain ⟨xs, n, _, hx, hl, hn, hg⟩ := DataW.trod_struct Try.underlying29 h'
  have hl4 : cs.length = 4 := by rw [hl]; exact ox_cellsOp
  have hn4 : xs.length = 4 := hn
  obtain ⟨c0, c1, c2, c3, rfl⟩ : ∃ a b c d, cs = [a, b, c, d] := by
    match cs, hl4 with
    | [a, b, c, d], _ => exact ⟨a, b, c, d, rfl⟩
  obtain ⟨x0, x1, x2, x3, rfl⟩ : ∃ a b c d, xs = [a, b, c, d] := by
    match xs, hn4 with
    | [a, b, c, d], _ => exact ⟨a, b, c, d, rfl⟩
  have g0 : DataW.trod enc Try.prog w base spare held n 3 [c0] = some x0 := by
    have q : DataW.trod enc Try.prog w base spare held n 3 (List.take (Try.prog.cellsOf 3) (List.drop 0 [c0, c1, c2, c3])) = some x0 := hg 0 _ rfl
    rw [ox_cellsInt] at q
    exact q
  have g1 : DataW.trod enc Try.prog w base spare held n 3 [c1] = some x1 := by
    have q : DataW.trod enc Try.prog w base spare held n 3 (List.take (Try.prog.cellsOf 3) (List.drop 1 [c0, c1, c2, c3])) = some x1 := hg 1 _ rfl
    rw [ox_cellsInt] at q
    exact q
  have g2 : DataW.trod enc Try.prog w base spare held n 3 [c2] = some x2 := by
    have q : DataW.trod enc Try.prog w base spare held n 3 (List.take (Try.prog.cellsOf 3) (List.drop 2 [c0, c1, c2, c3])) = some x2 := hg 2 _ rfl
    rw [ox_cellsInt] at q
    exact q
  have g3 : DataW.trod enc Try.prog w base spare held n 3 [c3] = some x3 := by
    have q : DataW.trod enc Try.prog w base spare held n 3 (List.take (Try.prog.cellsOf 3) (List.drop 3 [c0, c1, c2, c3])) = some x3 := hg 3 _ rfl
    rw [ox_cellsInt] at q
    exact q
  obtain ⟨n0, e0, _, w0⟩ := DataW.trod_int Try.underlying3 g0
  obtain ⟨n1, e1, _, w1⟩ := DataW.trod_int Try.underlying3 g1
  obtain ⟨n2, e2, _, w2⟩ := DataW.trod_int Try.underlying3 g2
  obtain ⟨n3, e3, _, w3⟩ := DataW.trod_int Try.underlying3 g3
  have b0 := bounds_i64 w0
  have b1 := bounds_i64 w1
  have b2 := bounds_i64 w2
  have b3 := bounds_i64 w3
  simp only [List.cons.injEq, and_true] at e0 e1 e2 e3
  subst e0 e1 e2 e3
  exact ⟨⟨n0, n1, n2, n3⟩, by rw [opE8_enc]; rfl, b0, b1, b2, b3⟩
theorem open_zs {H : Type} {enc : TypeId × Value → H} {w : World} {base b0 : Nat} {spare : Nat → Bool} {held : Bool} {r : Reach} {v : Value} {d : DataW H} {ps : List MemPlace}
    (hval : Value.okWide Try.prog w r b0 39 v) (hd : DataW.Trod enc Try.prog w base spare held 39 v d ps) :
    ∃ (y : Option Addr) (c : Nat) (bs : List Int), v = .slice y bs.length c ∧ IsG w (.slice y bs.length c) (zV bs) ∧ bs.length ≤ bdlen d ∧ ∀ a ∈ bs, i64 a := by
  obtain ⟨a, len, cap, rfl⟩ := okWide_slice Try.underlying39 hval
  obtain ⟨fuel, hf⟩ := hd
  rcases DataW.trod_slice Try.underlying39 hf with ⟨he, _⟩ | ⟨a, len, cap, elems, rest, n, _, he, hx, _, hl, hm, hlen, hel, _, _⟩
  · simp only [Value.cells, List.cons.injEq, and_true] at he
    rw [he]
    exact ⟨none, 0, [], rfl, .inl ⟨rfl, rfl⟩, Nat.zero_le _, fun a h => by simp at h⟩
  · simp only [Value.cells, List.cons.injEq, and_true] at he
    rw [he]
    simp only [Prod.mk.injEq] at hx
    have each : ∀ i, i < len → ∃ b : Int, w.cell? (a.add i) = some (.int .i64 b) ∧ i64 b := fun i hi => by
      have h1 := hel i hi
      have h2 : i < elems.length := by omega
      rw [List.getElem?_eq_getElem h2, ox_cellsInt, Option.bind_eq_some_iff] at h1
      obtain ⟨cs', hcs, hy⟩ := h1
      obtain ⟨b, hb, _, wb⟩ := DataW.trod_int Try.underlying3 hy
      subst hb
      have := (ob_cells hcs).2 0 (.int .i64 b) rfl
      rw [Nat.mul_one] at this
      exact ⟨b, by simpa [Addr.add] using this, bounds_i64 wb⟩
    obtain ⟨bs, hbs, hP⟩ := ob_list each
    refine ⟨some a, cap, bs, by rw [hbs], .inr ⟨a, cap, by simp [zV], fun i hi => ?_⟩, ?_, ?_⟩
    · have hi' : i < bs.length := by simpa [zV] using hi
      simp only [zV, List.getElem_map]
      exact (hP i hi').1
    · rw [hx.1]
      simp only [bdlen, List.length_map]
      omega
    · intro q hq
      obtain ⟨i, hi⟩ := List.mem_iff_getElem?.1 hq
      obtain ⟨hi', rfl⟩ := List.getElem?_eq_some_iff.1 hi
      exact (hP i hi').2
theorem zs_sized {H : Type} {ds : List (DataW H)} {ts : List TypeId} {d : DataW H} {j : Nat} (h : (DataW.weightsEach Try.prog ts ds).all (fun x => decide (x ≤ reachBytes)) = true) (ht : ts[j]? = some 39) (hd : ds[j]? = some d) :
    bdlen d ≤ 140737488351232 := by
  cases d with
  | slice el sp =>
    have := List.all_eq_true.1 h _ (DataW.weights_mem_each ht hd ((el.length + sp.length) * Try.prog.bytesOf 3) (by
      simp only [DataW.weights, Try.underlying39]
      simp))
    have h2 := of_decide_eq_true this
    rw [ox_bytesInt] at h2
    simp only [reachBytes] at h2
    simp only [bdlen]
    omega
  | _ => simp [bdlen]
theorem ops8_sized {H : Type} {ds : List (DataW H)} {ts : List TypeId} {d : DataW H} {j : Nat} (h : (DataW.weightsEach Try.prog ts ds).all (fun x => decide (x ≤ reachBytes)) = true) (ht : ts[j]? = some 22) (hd : ds[j]? = some d) :
    bdlen d ≤ 140737488351232 := by
  cases d with
  | slice el sp =>
    have := List.all_eq_true.1 h _ (DataW.weights_mem_each ht hd ((el.length + sp.length) * Try.prog.bytesOf 29) (by
      simp only [DataW.weights, Try.underlying22]
      simp))
    have h2 := of_decide_eq_true this
    rw [ox_bytesOp] at h2
    simp only [reachBytes] at h2
    simp only [bdlen]
    omega
  | _ => simp [bdlen]
end Go.Proofs.Ytafbkdpheneceaa
