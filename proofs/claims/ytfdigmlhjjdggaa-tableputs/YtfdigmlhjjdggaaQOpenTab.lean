import Derived.Test.YtfdigmlhjjdggaaQOpenNam
import Derived.Test.YtfdigmlhjjdggaaQTaba
namespace Go.Proofs.Ytfdigmlhjjdggaa
open Go.ChangeShapes Go.WideShapes Go.ChangeAt Go.RowKit

/-! Opening api.Tag, api.Snap, Look, Both, []uint32 -/
theorem ot_cellsDg : Try.prog.cellsOf 23 = 32 := by kernel_rfl
theorem ot_cellsU : Try.prog.cellsOf 26 = 1 := by kernel_rfl
set_option maxRecDepth 100000 in
theorem ot_dg {H : Type} {enc : TypeId × Value → H} {w : World} {base : Nat} {spare : Nat → Bool} {held : Bool} {fuel : Nat} {cs : List Value} {x : DataW H × List MemPlace}
    (h : DataW.trod enc Try.prog w base spare held fuel 23 cs = some x) : ∃ s, cs = (dg_secA s).toList := by
  obtain ⟨xs, m, _, _, hl, hn, hx⟩ := DataW.trod_array Try.underlying23 h
  rw [ot_cellsDg] at hl
  obtain ⟨s, hs⟩ := dg_secA_of cs.toArray (by simpa using hl) (fun i hi => by
    have h1 := hx i hi
    rw [cells5, Nat.mul_one, List.getElem?_eq_getElem (by omega)] at h1
    obtain ⟨n, hc, _, hw⟩ := DataW.trod_int Try.underlying5 h1
    refine ⟨n, ?_, u8_bounds hw⟩
    have h2 : ((cs.drop i).take 1)[0]? = some (Value.int .u8 n) := by rw [hc]; rfl
    rw [List.getElem?_take, if_pos (by omega), List.getElem?_drop] at h2
    simpa using h2)
  exact ⟨s, by rw [← hs]⟩
theorem tgA_list (e : Tg) : (tgA e).toList = .string e.nm :: (dg_secA e.key).toList := by
  unfold tgA
  generalize dg_secA e.key = D
  rw [Array.toList_append]; rfl
theorem snA_list (e : Sn) : (snA e).toList = .int .u32 e.id :: .int .u32 e.pa :: (dg_secA e.key).toList := by
  unfold snA
  generalize dg_secA e.key = D
  rw [Array.toList_append]; rfl
set_option maxRecDepth 100000 in
theorem tg_of_trod {H : Type} {enc : TypeId × Value → H} {w : World} {base : Nat} {spare : Nat → Bool} {held : Bool} {fuel : Nat} {cs : List Value} {x : DataW H × List MemPlace}
    (h : DataW.trod enc Try.prog w base spare held fuel 25 cs = some x) : ∃ (nm : ByteArray) (key : Nat → UInt8), cs = (tgA ⟨nm, key⟩).toList ∧ nm.size ≤ 9223372036854775807 := by
  obtain ⟨xs, n, _, hx, hl, hn, hg⟩ := DataW.trod_struct Try.underlying25 h
  have hl33 : cs.length = 33 := by rw [hl]; kernel_rfl
  have hn2 : xs.length = 2 := hn
  obtain ⟨c0, rest, rfl⟩ : ∃ a r, cs = a :: r := by
    match cs, hl33 with
    | a :: r, _ => exact ⟨a, r, rfl⟩
  have hrest : rest.length = 32 := by simpa using hl33
  obtain ⟨x0, x1, rfl⟩ : ∃ a b, xs = [a, b] := by
    match xs, hn2 with
    | [a, b], _ => exact ⟨a, b, rfl⟩
  have g0 : DataW.trod enc Try.prog w base spare held n 9 [c0] = some x0 := by
    have q : DataW.trod enc Try.prog w base spare held n 9 (List.take (Try.prog.cellsOf 9) (List.drop 0 (c0 :: rest))) = some x0 := hg 0 _ rfl
    rw [cellsStr] at q
    exact q
  have g1 : DataW.trod enc Try.prog w base spare held n 23 rest = some x1 := by
    have q : DataW.trod enc Try.prog w base spare held n 23 (List.take (Try.prog.cellsOf 23) (List.drop 1 (c0 :: rest))) = some x1 := hg 1 _ rfl
    rw [ot_cellsDg] at q
    rw [show List.drop 1 (c0 :: rest) = rest from rfl, List.take_of_length_le (by omega)] at q
    exact q
  obtain ⟨s, e0, _, w0⟩ := DataW.trod_string Try.underlying9 g0
  obtain ⟨k, hk⟩ := ot_dg g1
  simp only [List.cons.injEq, and_true] at e0
  clear hg g0 g1 hx hl hl33 hrest h
  subst e0
  exact ⟨s, k, by rw [tgA_list, hk], by unfold maxLen at w0; omega⟩
set_option maxRecDepth 100000 in
theorem sn_of_trod {H : Type} {enc : TypeId × Value → H} {w : World} {base : Nat} {spare : Nat → Bool} {held : Bool} {fuel : Nat} {cs : List Value} {x : DataW H × List MemPlace}
    (h : DataW.trod enc Try.prog w base spare held fuel 28 cs = some x) : ∃ (a b : Nat) (key : Nat → UInt8), cs = (snA ⟨(a : Int), (b : Int), key⟩).toList ∧ a < 4294967296 ∧ b < 4294967296 := by
  obtain ⟨xs, n, _, hx, hl, hn, hg⟩ := DataW.trod_struct Try.underlying28 h
  have hl34 : cs.length = 34 := by rw [hl]; kernel_rfl
  have hn3 : xs.length = 3 := hn
  obtain ⟨c0, c1, rest, rfl⟩ : ∃ a b r, cs = a :: b :: r := by
    match cs, hl34 with
    | a :: b :: r, _ => exact ⟨a, b, r, rfl⟩
  have hrest : rest.length = 32 := by simpa using hl34
  obtain ⟨x0, x1, x2, rfl⟩ : ∃ a b c, xs = [a, b, c] := by
    match xs, hn3 with
    | [a, b, c], _ => exact ⟨a, b, c, rfl⟩
  have g0 : DataW.trod enc Try.prog w base spare held n 26 [c0] = some x0 := by
    have q : DataW.trod enc Try.prog w base spare held n 26 (List.take (Try.prog.cellsOf 26) (List.drop 0 (c0 :: c1 :: rest))) = some x0 := hg 0 _ rfl
    rw [ot_cellsU] at q
    exact q
  have g1 : DataW.trod enc Try.prog w base spare held n 26 [c1] = some x1 := by
    have q : DataW.trod enc Try.prog w base spare held n 26 (List.take (Try.prog.cellsOf 26) (List.drop 1 (c0 :: c1 :: rest))) = some x1 := hg 1 _ rfl
    rw [ot_cellsU] at q
    exact q
  have g2 : DataW.trod enc Try.prog w base spare held n 23 rest = some x2 := by
    have q : DataW.trod enc Try.prog w base spare held n 23 (List.take (Try.prog.cellsOf 23) (List.drop 2 (c0 :: c1 :: rest))) = some x2 := hg 2 _ rfl
    rw [ot_cellsDg] at q
    rw [show List.drop 2 (c0 :: c1 :: rest) = rest from rfl, List.take_of_length_le (by omega)] at q
    exact q
  obtain ⟨n0, e0, _, w0⟩ := DataW.trod_int Try.underlying26 g0
  obtain ⟨n1, e1, _, w1⟩ := DataW.trod_int Try.underlying26 g1
  obtain ⟨k, hk⟩ := ot_dg g2
  simp only [List.cons.injEq, and_true] at e0 e1
  clear hg g0 g1 g2 hx hl hl34 hrest h
  subst e0 e1
  have b0 := u32_bounds w0
  have b1 := u32_bounds w1
  obtain ⟨a, rfl⟩ := Int.eq_ofNat_of_zero_le b0.1
  obtain ⟨b, rfl⟩ := Int.eq_ofNat_of_zero_le b1.1
  exact ⟨a, b, k, by rw [snA_list, hk], by omega, by omega⟩
section
variable {H : Type} {enc : TypeId × Value → H} {w : World} {base b0 : Nat} {spare : Nat → Bool} {held : Bool} {r : Reach} {v : Value} {d : DataW H} {ps : List MemPlace}
set_option maxRecDepth 100000 in
theorem open_tag (hval : Value.okWide Try.prog w r b0 25 v) (hd : DataW.Trod enc Try.prog w base spare held 25 v d ps) : ∃ (nm : ByteArray) (key : Nat → UInt8), v = .agg (tgA ⟨nm, key⟩) ∧ nm.size ≤ 9223372036854775807 := by
  obtain ⟨cs, rfl, _⟩ := okWide_struct Try.underlying25 hval
  obtain ⟨fuel, hf⟩ := hd
  obtain ⟨nm, key, he, hb⟩ := tg_of_trod hf
  simp only [Value.cells] at he
  exact ⟨nm, key, by rw [Array.toList_inj.1 he], hb⟩
set_option maxRecDepth 100000 in
theorem open_snap (hval : Value.okWide Try.prog w r b0 28 v) (hd : DataW.Trod enc Try.prog w base spare held 28 v d ps) : ∃ (a b : Nat) (key : Nat → UInt8), v = .agg (snA ⟨(a : Int), (b : Int), key⟩) ∧ a < 4294967296 ∧ b < 4294967296 := by
  obtain ⟨cs, rfl, _⟩ := okWide_struct Try.underlying28 hval
  obtain ⟨fuel, hf⟩ := hd
  obtain ⟨a, b, key, he, hb⟩ := sn_of_trod hf
  simp only [Value.cells] at he
  exact ⟨a, b, key, by rw [Array.toList_inj.1 he], hb⟩
theorem lkA_list (s : Sc) (n : Int) : (lkA s n).toList = (secA s).toList ++ [.int .i64 n] := by
  unfold lkA
  generalize secA s = D
  rw [Array.toList_append]
set_option maxRecDepth 100000 in
theorem open_look (hval : Value.okWide Try.prog w r b0 52 v) (hd : DataW.Trod enc Try.prog w base spare held 52 v d ps) : ∃ (s : Sc) (n : Int), v = .agg (lkA s n) ∧ -9223372036854775808 ≤ n ∧ n ≤ 9223372036854775807 := by
  obtain ⟨cs, rfl, _⟩ := okWide_struct Try.underlying52 hval
  obtain ⟨fuel, hf⟩ := hd
  obtain ⟨xs, n, _, hx, hl, hn, hg⟩ := DataW.trod_struct Try.underlying52 hf
  have hcs : (Value.agg cs).cells = cs := rfl
  rw [hcs] at hg hl
  have hl65 : cs.toList.length = 65 := by rw [hl]; kernel_rfl
  have hn2 : xs.length = 2 := hn
  obtain ⟨x0, x1, rfl⟩ : ∃ a b, xs = [a, b] := by
    match xs, hn2 with
    | [a, b], _ => exact ⟨a, b, rfl⟩
  have g0 : DataW.trod enc Try.prog w base spare held n 35 (cs.toList.take 64) = some x0 := by
    have q : DataW.trod enc Try.prog w base spare held n 35 (List.take (Try.prog.cellsOf 35) (List.drop 0 cs.toList)) = some x0 := hg 0 _ rfl
    rw [cells35, List.drop_zero] at q
    exact q
  have g1 : DataW.trod enc Try.prog w base spare held n 3 (cs.toList.drop 64) = some x1 := by
    have q : DataW.trod enc Try.prog w base spare held n 3 (List.take (Try.prog.cellsOf 3) (List.drop 64 cs.toList)) = some x1 := hg 1 _ rfl
    rw [cellsInt, List.take_of_length_le (by rw [List.length_drop]; omega)] at q
    exact q
  obtain ⟨s, hs⟩ := sec_of_trod g0
  obtain ⟨k, hk, _, hw⟩ := DataW.trod_int Try.underlying3 g1
  refine ⟨s, k, ?_, (bounds_i64 hw).1, (bounds_i64 hw).2⟩
  have e : cs.toList = (lkA s k).toList := by rw [lkA_list, ← hs, ← hk, List.take_append_drop]
  rw [Array.toList_inj.1 e]
def btA (nm : ByteArray) (key : Nat → UInt8) (a b : Nat) (ly : Nat → UInt8) : Array Value := tgA ⟨nm, key⟩ ++ snA ⟨(a : Int), (b : Int), ly⟩
set_option maxRecDepth 100000 in
theorem open_both (hval : Value.okWide Try.prog w r b0 30 v) (hd : DataW.Trod enc Try.prog w base spare held 30 v d ps) : ∃ (nm : ByteArray) (key : Nat → UInt8) (a b : Nat) (ly : Nat → UInt8), v = .agg (btA nm key a b ly) ∧ nm.size ≤ 9223372036854775807 ∧ a < 4294967296 ∧ b < 4294967296 := by
  obtain ⟨cs, rfl, _⟩ := okWide_struct Try.underlying30 hval
  obtain ⟨fuel, hf⟩ := hd
  obtain ⟨xs, n, _, hx, hl, hn, hg⟩ := DataW.trod_struct Try.underlying30 hf
  have hcs : (Value.agg cs).cells = cs := rfl
  rw [hcs] at hg hl
  have hl67 : cs.toList.length = 67 := by rw [hl]; kernel_rfl
  have hn2 : xs.length = 2 := hn
  obtain ⟨x0, x1, rfl⟩ : ∃ a b, xs = [a, b] := by
    match xs, hn2 with
    | [a, b], _ => exact ⟨a, b, rfl⟩
  have g0 : DataW.trod enc Try.prog w base spare held n 25 (cs.toList.take 33) = some x0 := by
    have q : DataW.trod enc Try.prog w base spare held n 25 (List.take (Try.prog.cellsOf 25) (List.drop 0 cs.toList)) = some x0 := hg 0 _ rfl
    rw [show Try.prog.cellsOf 25 = 33 from by kernel_rfl, List.drop_zero] at q
    exact q
  have g1 : DataW.trod enc Try.prog w base spare held n 28 (cs.toList.drop 33) = some x1 := by
    have q : DataW.trod enc Try.prog w base spare held n 28 (List.take (Try.prog.cellsOf 28) (List.drop 33 cs.toList)) = some x1 := hg 1 _ rfl
    rw [show Try.prog.cellsOf 28 = 34 from by kernel_rfl, List.take_of_length_le (by rw [List.length_drop]; omega)] at q
    exact q
  obtain ⟨nm, key, hs, hb⟩ := tg_of_trod g0
  obtain ⟨a, b, ly, hk, hb2⟩ := sn_of_trod g1
  refine ⟨nm, key, a, b, ly, ?_, hb, hb2⟩
  have e : cs.toList = (btA nm key a b ly).toList := by unfold btA; rw [Array.toList_append, ← hs, ← hk, List.take_append_drop]
  rw [Array.toList_inj.1 e]
set_option maxRecDepth 100000 in
theorem open_u32s (hval : Value.okWide Try.prog w r b0 31 v) (hd : DataW.Trod enc Try.prog w base spare held 31 v d ps) :
    ∃ (y : Option Addr) (c : Nat) (l : List Nat), v = .slice y l.length c ∧ IsG w (.slice y l.length c) (uV l) ∧ l.length ≤ c ∧ c ≤ maxLen ∧ (∀ (i : Nat) (x : Nat), l[i]? = some x → x < 4294967296) ∧ l.length = dlen d := by
  obtain ⟨a, len, cap, rfl⟩ := okWide_slice Try.underlying31 hval
  obtain ⟨fuel, hf⟩ := hd
  rcases open_ints Try.underlying31 Try.underlying26 ot_cellsU hf with ⟨he, hd⟩ | ⟨a, len, cap, zs, he, _, hl, hm, hz, hd, hcell, hwz⟩
  · simp only [Value.cells, List.cons.injEq, and_true] at he
    rw [he]
    exact ⟨none, 0, [], rfl, .inl ⟨rfl, rfl⟩, Nat.le_refl _, Nat.zero_le _, by simp, by cases hd; rfl⟩
  · simp only [Value.cells, List.cons.injEq, and_true] at he
    rw [he]
    have hlz : len ≤ zs.length := by rw [hz]; split <;> omega
    have hll : ((zs.take len).map Int.toNat).length = len := by simp; omega
    have hbd : ∀ z ∈ zs, 0 ≤ z ∧ z < 4294967296 := fun z h => u32_bounds (hwz z h)
    refine ⟨some a, cap, (zs.take len).map Int.toNat, by rw [hll], .inr ⟨a, cap, by rw [uV_len], fun i hi => ?_⟩, by rw [hll]; exact hl, hm, fun i x hx => ?_, by rw [hll]; cases hd; simp [dlen, lits]; omega⟩
    · rw [uV_len, hll] at hi
      have hi2 : i < zs.length := by omega
      rw [hcell i (by omega)]
      have hb9 := hbd zs[i] (List.getElem_mem hi2)
      simp [uV, List.getD, hi2, Int.toNat_of_nonneg hb9.1]
    · simp only [List.getElem?_map, Option.map_eq_some_iff] at hx
      obtain ⟨z, hz9, rfl⟩ := hx
      have hmem : z ∈ zs := List.mem_of_mem_take (List.mem_of_getElem? hz9)
      have := hbd z hmem
      omega
end
theorem ot_bytesU : Try.prog.bytesOf 26 = 4 := by kernel_rfl
set_option maxRecDepth 100000 in
theorem u32s_sized {H : Type} {ds : List (DataW H)} {ts : List TypeId} {d : DataW H} {j : Nat} (h : (DataW.weightsEach Try.prog ts ds).all (fun x => decide (x ≤ reachBytes)) = true) (ht : ts[j]? = some 31) (hd : ds[j]? = some d) :
    dlen d * 4 ≤ 140737488351232 := by
  cases d with
  | slice el sp =>
    have := List.all_eq_true.1 h _ (DataW.weights_mem_each ht hd ((el.length + sp.length) * Try.prog.bytesOf 26) (by
      simp only [DataW.weights, Try.underlying31]
      simp))
    have h2 := of_decide_eq_true this
    rw [ot_bytesU] at h2
    simp only [reachBytes] at h2
    simp only [dlen]
    omega
  | _ => simp [dlen]
end Go.Proofs.Ytfdigmlhjjdggaa
