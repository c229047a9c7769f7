
import Derived.Test.YtligjfofnafjeaaFor8
import Derived.Test.YtligjfofnafjeaaOpen
import Derived.Test.YtligjfofnafjeaaOpenGen
namespace Go.Proofs.Ytligjfofnafjeaa
open Go.ChangeShapes Go.WideShapes Go.ChangeAt Go.RowKit

/-! Opening []assayref21.Row, []api.Snap -/
theorem u32_bounds21 {x : Int} (h : (Lit.int .u32 x).wf = true) : 0 ≤ x ∧ x < 4294967296 := by have := bounds_u32 h; omega
set_option maxRecDepth 100000 in
theorem of_cellsDg : Try.prog.cellsOf 35 = 32 := by kernel_rfl
set_option maxRecDepth 100000 in
theorem of_cellsU : Try.prog.cellsOf 33 = 1 := by kernel_rfl
set_option maxRecDepth 100000 in
theorem of_dg {H : Type} {enc : TypeId × Value → H} {w : World} {base : Nat} {spare : Nat → Bool} {held : Bool} {fuel : Nat} {cs : List Value} {x : DataW H × List MemPlace}
    (h : DataW.trod enc Try.prog w base spare held fuel 35 cs = some x) : ∃ s, cs = (dg_secA s).toList := by
  obtain ⟨xs, m, _, _, hl, hn, hx⟩ := DataW.trod_array Try.underlying35 h
  rw [of_cellsDg] at hl
  obtain ⟨s, hs⟩ := dg_secA_of cs.toArray (by simpa using hl) (fun i hi => by
    have h1 := hx i hi
    rw [cells5, Nat.mul_one, List.getElem?_eq_getElem (by omega)] at h1
    obtain ⟨n, hc, _, hw⟩ := DataW.trod_int Try.underlying5 h1
    refine ⟨n, ?_, u8_bounds hw⟩
    have h2 : ((cs.drop i).take 1)[0]? = some (Value.int .u8 n) := by rw [hc]; rfl
    rw [List.getElem?_take, if_pos (by omega), List.getElem?_drop] at h2
    simpa using h2)
  exact ⟨s, by rw [← hs]⟩
set_option maxRecDepth 100000 in
theorem snA_list21 (e : Sn) : (snA e).toList = .int .u32 e.id :: .int .u32 e.pa :: (dg_secA e.key).toList := by
  unfold snA
  generalize dg_secA e.key = D
  rw [Array.toList_append]; rfl
set_option maxRecDepth 100000 in
theorem sn_of_trod21 {H : Type} {enc : TypeId × Value → H} {w : World} {base : Nat} {spare : Nat → Bool} {held : Bool} {fuel : Nat} {cs : List Value} {x : DataW H × List MemPlace}
    (h : DataW.trod enc Try.prog w base spare held fuel 37 cs = some x) : ∃ (a b : Nat) (key : Nat → UInt8), cs = (snA ⟨(a : Int), (b : Int), key⟩).toList ∧ a < 4294967296 ∧ b < 4294967296 := by
  obtain ⟨xs, n, _, hx, hl, hn, hg⟩ := DataW.trod_struct Try.underlying37 h
  have hl34 : cs.length = 34 := by rw [hl]; kernel_rfl
  have hn3 : xs.length = 3 := hn
  obtain ⟨c0, c1, rest, rfl⟩ : ∃ a b r, cs = a :: b :: r := by
    match cs, hl34 with
    | a :: b :: r, _ => exact ⟨a, b, r, rfl⟩
  have hrest : rest.length = 32 := by simpa using hl34
  obtain ⟨x0, x1, x2, rfl⟩ : ∃ a b c, xs = [a, b, c] := by
    match xs, hn3 with
    | [a, b, c], _ => exact ⟨a, b, c, rfl⟩
  have g0 : DataW.trod enc Try.prog w base spare held n 33 [c0] = some x0 := by
    have q : DataW.trod enc Try.prog w base spare held n 33 (List.take (Try.prog.cellsOf 33) (List.drop 0 (c0 :: c1 :: rest))) = some x0 := hg 0 _ rfl
    rw [of_cellsU] at q
    exact q
  have g1 : DataW.trod enc Try.prog w base spare held n 33 [c1] = some x1 := by
    have q : DataW.trod enc Try.prog w base spare held n 33 (List.take (Try.prog.cellsOf 33) (List.drop 1 (c0 :: c1 :: rest))) = some x1 := hg 1 _ rfl
    rw [of_cellsU] at q
    exact q
  have g2 : DataW.trod enc Try.prog w base spare held n 35 rest = some x2 := by
    have q : DataW.trod enc Try.prog w base spare held n 35 (List.take (Try.prog.cellsOf 35) (List.drop 2 (c0 :: c1 :: rest))) = some x2 := hg 2 _ rfl
    rw [of_cellsDg] at q
    rw [show List.drop 2 (c0 :: c1 :: rest) = rest from rfl, List.take_of_length_le (by omega)] at q
    exact q
  obtain ⟨n0, e0, _, w0⟩ := DataW.trod_int Try.underlying33 g0
  obtain ⟨n1, e1, _, w1⟩ := DataW.trod_int Try.underlying33 g1
  obtain ⟨k, hk⟩ := of_dg g2
  simp only [List.cons.injEq, and_true] at e0 e1
  clear hg g0 g1 g2 hx hl hl34 hrest h
  subst e0 e1
  have b0 := u32_bounds21 w0
  have b1 := u32_bounds21 w1
  obtain ⟨a, rfl⟩ := Int.eq_ofNat_of_zero_le b0.1
  obtain ⟨b, rfl⟩ := Int.eq_ofNat_of_zero_le b1.1
  exact ⟨a, b, k, by rw [snA_list21, hk], by omega, by omega⟩
theorem of_cellsSn : Try.prog.cellsOf 37 = 34 := by kernel_rfl
theorem of_bytesSn : Try.prog.bytesOf 37 = 40 := by kernel_rfl
theorem of_cellsRw : Try.prog.cellsOf 39 = 36 := by kernel_rfl
theorem of_bytesRw : Try.prog.bytesOf 39 = 44 := by kernel_rfl
theorem of_cellsBo : Try.prog.cellsOf 4 = 1 := by kernel_rfl
set_option maxRecDepth 100000 in
theorem sn_each {H : Type} {enc : TypeId × Value → H} {w : World} {base : Nat} {spare : Nat → Bool} {held : Bool} (fuel : Nat) (cs : List Value) (x : DataW H × List MemPlace)
    (h : DataW.trod enc Try.prog w base spare held fuel snE.T cs = some x) : ∃ p : Sn, cs = snE.enc p ∧ p.ok := by
  have h' : DataW.trod enc Try.prog w base spare held fuel 37 cs = some x := h
  obtain ⟨a, b, key, h1, h2, h3⟩ := sn_of_trod21 h'
  refine ⟨⟨a, b, key⟩, by rw [h1]; simp only [snE], ?_⟩
  unfold Sn.ok
  show 0 ≤ (a : Int) ∧ (a : Int) < 4294967296 ∧ 0 ≤ (b : Int) ∧ (b : Int) < 4294967296
  omega
theorem rwA_list (e : Rw) : (rwA e).toList = .bool e.th :: .bool e.la :: (snA e.sn).toList := by
  unfold rwA
  generalize snA e.sn = D
  rw [Array.toList_append]; rfl
set_option maxRecDepth 100000 in
theorem rw_each {H : Type} {enc : TypeId × Value → H} {w : World} {base : Nat} {spare : Nat → Bool} {held : Bool} (fuel : Nat) (cs : List Value) (x : DataW H × List MemPlace)
    (h : DataW.trod enc Try.prog w base spare held fuel rwE.T cs = some x) : ∃ p : Rw, cs = rwE.enc p ∧ p.sn.ok := by
  have h' : DataW.trod enc Try.prog w base spare held fuel 39 cs = some x := h
  obtain ⟨xs, n, _, hx, hl, hn, hg⟩ := DataW.trod_struct Try.underlying39 h'
  have hl36 : cs.length = 36 := by rw [hl]; kernel_rfl
  have hn3 : xs.length = 3 := hn
  obtain ⟨c0, c1, rest, rfl⟩ : ∃ a b r, cs = a :: b :: r := by
    match cs, hl36 with
    | a :: b :: r, _ => exact ⟨a, b, r, rfl⟩
  have hrest : rest.length = 34 := by simpa using hl36
  obtain ⟨x0, x1, x2, rfl⟩ : ∃ a b c, xs = [a, b, c] := by
    match xs, hn3 with
    | [a, b, c], _ => exact ⟨a, b, c, rfl⟩
  have g0 : DataW.trod enc Try.prog w base spare held n 4 [c0] = some x0 := by
    have q : DataW.trod enc Try.prog w base spare held n 4 (List.take (Try.prog.cellsOf 4) (List.drop 0 (c0 :: c1 :: rest))) = some x0 := hg 0 _ rfl
    rw [of_cellsBo] at q
    exact q
  have g1 : DataW.trod enc Try.prog w base spare held n 4 [c1] = some x1 := by
    have q : DataW.trod enc Try.prog w base spare held n 4 (List.take (Try.prog.cellsOf 4) (List.drop 1 (c0 :: c1 :: rest))) = some x1 := hg 1 _ rfl
    rw [of_cellsBo] at q
    exact q
  have g2 : DataW.trod enc Try.prog w base spare held n 37 rest = some x2 := by
    have q : DataW.trod enc Try.prog w base spare held n 37 (List.take (Try.prog.cellsOf 37) (List.drop 2 (c0 :: c1 :: rest))) = some x2 := hg 2 _ rfl
    rw [of_cellsSn] at q
    rw [show List.drop 2 (c0 :: c1 :: rest) = rest from rfl, List.take_of_length_le (by omega)] at q
    exact q
  obtain ⟨t0, e0, _⟩ := DataW.trod_bool Try.underlying4 g0
  obtain ⟨t1, e1, _⟩ := DataW.trod_bool Try.underlying4 g1
  obtain ⟨a, b, key, h1, h2, h3⟩ := sn_of_trod21 g2
  simp only [List.cons.injEq, and_true] at e0 e1
  clear hg g0 g1 g2 hx hl hl36 hrest h h'
  subst e0 e1
  refine ⟨⟨t0, t1, ⟨a, b, key⟩⟩, ?_, ?_⟩
  · have e9 : rwE.enc ⟨t0, t1, ⟨a, b, key⟩⟩ = (rwA ⟨t0, t1, ⟨a, b, key⟩⟩).toList := by simp only [rwE]
    rw [e9, rwA_list, h1]
  · unfold Sn.ok
    show 0 ≤ (a : Int) ∧ (a : Int) < 4294967296 ∧ 0 ≤ (b : Int) ∧ (b : Int) < 4294967296
    omega
set_option maxRecDepth 100000 in
theorem rws_sized {H : Type} {ds : List (DataW H)} {ts : List TypeId} {d : DataW H} {j : Nat} (h : (DataW.weightsEach Try.prog ts ds).all (fun x => decide (x ≤ reachBytes)) = true) (ht : ts[j]? = some 22) (hd : ds[j]? = some d) :
    bdlen d * 44 ≤ 140737488351232 := by
  cases d with
  | slice el sp =>
    have := List.all_eq_true.1 h _ (DataW.weights_mem_each ht hd ((el.length + sp.length) * Try.prog.bytesOf 39) (by
      simp only [DataW.weights, Try.underlying22]
      simp))
    have h2 := of_decide_eq_true this
    rw [of_bytesRw] at h2
    simp only [reachBytes] at h2
    simp only [bdlen]
    omega
  | _ => simp [bdlen]
set_option maxRecDepth 100000 in
theorem sns_sized {H : Type} {ds : List (DataW H)} {ts : List TypeId} {d : DataW H} {j : Nat} (h : (DataW.weightsEach Try.prog ts ds).all (fun x => decide (x ≤ reachBytes)) = true) (ht : ts[j]? = some 32) (hd : ds[j]? = some d) :
    bdlen d * 40 ≤ 140737488351232 := by
  cases d with
  | slice el sp =>
    have := List.all_eq_true.1 h _ (DataW.weights_mem_each ht hd ((el.length + sp.length) * Try.prog.bytesOf 37) (by
      simp only [DataW.weights, Try.underlying32]
      simp))
    have h2 := of_decide_eq_true this
    rw [of_bytesSn] at h2
    simp only [reachBytes] at h2
    simp only [bdlen]
    omega
  | _ => simp [bdlen]
end Go.Proofs.Ytligjfofnafjeaa
