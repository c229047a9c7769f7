import Derived.Test.YtfihpfaljjljhaaOpen
import Derived.Test.YtfihpfaljjljhaaByt
import Derived.SizedLaws
namespace Go.Proofs.Ytfihpfaljjljhaa
open Go.ChangeShapes Go.WideShapes Go.ChangeAt Go.RowKit

theorem cells28 : Try.prog.cellsOf 28 = 1 := by kernel_rfl
theorem bytes5 : Try.prog.bytesOf 5 = 1 := by kernel_rfl
/-- How many elements a slice's datum has. -/
def dlen {H : Type} : DataW H → Nat | .slice e _ => e.length | _ => 0
theorem bytes_of_trod {H : Type} {enc : TypeId × Value → H} {w : World} {base : Nat} {spare : Nat → Bool} {held : Bool} {fuel : Nat} {cs : List Value} {x : DataW H × List MemPlace}
    (h : DataW.trod enc Try.prog w base spare held fuel 28 cs = some x) : ∃ v l, cs = [v] ∧ IsB w v l ∧ l.length = dlen x.1 := by
  rcases open_ints Try.underlying28 Try.underlying5 cells5 h with ⟨rfl, rfl⟩ | ⟨a, len, cap, zs, rfl, _, hl, hm, hz, rfl, hcell, hwz⟩
  · exact ⟨_, [], rfl, .inl ⟨rfl, rfl⟩, rfl⟩
  · have hlz : len ≤ zs.length := by rw [hz]; split <;> omega
    refine ⟨_, (zs.take len).map fun n => UInt8.ofNat n.toNat, rfl, .inr ⟨a, cap, by simp; omega, fun i hi => ?_⟩, by simp [dlen, lits]⟩
    have hi2 : i < len := by simp at hi; omega
    have hb := u8_bounds (hwz (zs[i]'(by omega)) (List.getElem_mem _))
    rw [hcell i (by omega)]
    have e1 : zs.getD i 0 = zs[i]'(by omega) := by simp [List.getD, List.getElem?_eq_getElem (show i < zs.length by omega)]
    rw [e1]
    simp only [List.getElem_map, List.getElem_take, UInt8.toNat_ofNat', Option.some.injEq, Value.int.injEq, true_and]
    omega
theorem i64_bounds {x : Int} (h : (Lit.int .i64 x).wf = true) : -9223372036854775808 ≤ x ∧ x ≤ 9223372036854775807 := bounds_i64 h
theorem u32_bounds {x : Int} (h : (Lit.int .u32 x).wf = true) : 0 ≤ x ∧ x < 4294967296 := by have := bounds_u32 h; omega
theorem open_ask {H : Type} {enc : TypeId × Value → H} {w : World} {base b0 : Nat} {spare : Nat → Bool} {held : Bool} {r : Reach} {v : Value} {d : DataW H} {ps : List MemPlace}
    (hval : Value.okWide Try.prog w r b0 30 v) (hd : DataW.Trod enc Try.prog w base spare held 30 v d ps) :
    ∃ At An To Av sl l d0 d1 d2 d3 d4, v = .agg #[.int .i64 At, .int .i64 An, .int .i64 To, .int .u32 Av, sl] ∧ d = .agg [d0, d1, d2, d3, d4] ∧
      (-9223372036854775808 ≤ At ∧ At ≤ 9223372036854775807) ∧ (-9223372036854775808 ≤ An ∧ An ≤ 9223372036854775807) ∧ (-9223372036854775808 ≤ To ∧ To ≤ 9223372036854775807) ∧ (0 ≤ Av ∧ Av < 4294967296) ∧ IsB w sl l ∧ l.length = dlen d4 := by
  obtain ⟨cs, rfl, _⟩ := okWide_struct Try.underlying30 hval
  obtain ⟨fuel, hf⟩ := hd
  obtain ⟨xs, n, _, hx, hl, hn, hg⟩ := DataW.trod_struct Try.underlying30 hf
  have hl5 : cs.toList.length = 5 := by rw [show (Value.agg cs).cells = cs from rfl] at hl; rw [hl]; kernel_rfl
  have hn5 : xs.length = 5 := hn
  obtain ⟨c0, c1, c2, c3, c4, hcs⟩ : ∃ a b c d e, cs.toList = [a, b, c, d, e] := by
    match hq : cs.toList, hl5 with
    | [a, b, c, d, e], _ => exact ⟨a, b, c, d, e, rfl⟩
  obtain ⟨x0, x1, x2, x3, x4, rfl⟩ : ∃ a b c d e, xs = [a, b, c, d, e] := by
    match xs, hn5 with
    | [a, b, c, d, e], _ => exact ⟨a, b, c, d, e, rfl⟩
  rw [show (Value.agg cs).cells = cs from rfl, hcs] at hg
  have ci : Try.prog.cellsOf 3 = 1 := by kernel_rfl
  have cu : Try.prog.cellsOf 27 = 1 := by kernel_rfl
  have g0 : DataW.trod enc Try.prog w base spare held n 3 [c0] = some x0 := by
    have q : DataW.trod enc Try.prog w base spare held n 3 (List.take (Try.prog.cellsOf 3) (List.drop 0 [c0, c1, c2, c3, c4])) = some x0 := hg 0 _ rfl
    rw [ci] at q
    exact q
  have g1 : DataW.trod enc Try.prog w base spare held n 3 [c1] = some x1 := by
    have q : DataW.trod enc Try.prog w base spare held n 3 (List.take (Try.prog.cellsOf 3) (List.drop 1 [c0, c1, c2, c3, c4])) = some x1 := hg 1 _ rfl
    rw [ci] at q
    exact q
  have g2 : DataW.trod enc Try.prog w base spare held n 3 [c2] = some x2 := by
    have q : DataW.trod enc Try.prog w base spare held n 3 (List.take (Try.prog.cellsOf 3) (List.drop 2 [c0, c1, c2, c3, c4])) = some x2 := hg 2 _ rfl
    rw [ci] at q
    exact q
  have g3 : DataW.trod enc Try.prog w base spare held n 27 [c3] = some x3 := by
    have q : DataW.trod enc Try.prog w base spare held n 27 (List.take (Try.prog.cellsOf 27) (List.drop 3 [c0, c1, c2, c3, c4])) = some x3 := hg 3 _ rfl
    rw [cu] at q
    exact q
  have g4 : DataW.trod enc Try.prog w base spare held n 28 [c4] = some x4 := by
    have q : DataW.trod enc Try.prog w base spare held n 28 (List.take (Try.prog.cellsOf 28) (List.drop 4 [c0, c1, c2, c3, c4])) = some x4 := hg 4 _ rfl
    rw [cells28] at q
    exact q
  obtain ⟨n0, e0, _, w0⟩ := DataW.trod_int Try.underlying3 g0
  obtain ⟨n1, e1, _, w1⟩ := DataW.trod_int Try.underlying3 g1
  obtain ⟨n2, e2, _, w2⟩ := DataW.trod_int Try.underlying3 g2
  obtain ⟨n3, e3, _, w3⟩ := DataW.trod_int Try.underlying27 g3
  obtain ⟨v4, l, e4, hb, hlen⟩ := bytes_of_trod g4
  simp only [List.cons.injEq, and_true] at e0 e1 e2 e3 e4
  subst e0 e1 e2 e3 e4
  simp only [Prod.mk.injEq] at hx
  refine ⟨n0, n1, n2, n3, _, l, x0.1, x1.1, x2.1, x3.1, x4.1, ?_, hx.1, i64_bounds w0, i64_bounds w1, i64_bounds w2, u32_bounds w3, hb, hlen⟩
  have : cs = #[.int .i64 n0, .int .i64 n1, .int .i64 n2, .int .u32 n3, c4] := by
    apply Array.toList_inj.1; exact hcs
  rw [this]
/-- The reach of the form pays for the Ask's bytes. -/
theorem ask_sized {H : Type} {ds : List (DataW H)} {ts : List TypeId} {d0 d1 d2 d3 d4 : DataW H} {j : Nat} (h : (DataW.weightsEach Try.prog ts ds).all (fun x => decide (x ≤ reachBytes)) = true) (ht : ts[j]? = some 30) (hd : ds[j]? = some (.agg [d0, d1, d2, d3, d4])) :
    dlen d4 ≤ 140737488351232 := by
  cases d4 with
  | slice el sp =>
    have := List.all_eq_true.1 h _ (DataW.weights_mem_each ht hd ((el.length + sp.length) * Try.prog.bytesOf 5) (by
      simp only [DataW.weights, Try.underlying30, DataW.weightsEach, List.map_cons, List.map_nil, Try.underlying28]
      simp))
    have h2 := of_decide_eq_true this
    rw [bytes5] at h2
    simp only [reachBytes] at h2
    simp only [dlen]
    omega
  | _ => simp [dlen]

end Go.Proofs.Ytfihpfaljjljhaa
