
import Derived.Test.YtakbapdonngpiaaOpen
import Derived.Test.YtakbapdonngpiaaSup3
namespace Go.Proofs.Ytakbapdonngpiaa
open Go.ChangeShapes Go.WideShapes Go.ChangeAt Go.RowKit

/-! Opening assaylaw11's Change -/
theorem os_cellsInt : Try.prog.cellsOf 3 = 1 := by kernel_rfl
set_option maxRecDepth 100000 in
theorem open_change {H : Type} {enc : TypeId × Value → H} {w : World} {base b0 : Nat} {spare : Nat → Bool} {held : Bool} {r : Reach} {v : Value} {d : DataW H} {ps : List MemPlace}
    (hval : Value.okWide Try.prog w r b0 23 v) (hd : DataW.Trod enc Try.prog w base spare held 23 v d ps) :
    ∃ (a : Int) (y : UInt8) (m : Int), v = .agg (chA a y m) ∧ -9223372036854775808 ≤ m ∧ m ≤ 9223372036854775807 := by
  obtain ⟨cs, rfl, _⟩ := okWide_struct Try.underlying23 hval
  obtain ⟨fuel, hf⟩ := hd
  obtain ⟨xs, n, _, hx, hl, hn, hg⟩ := DataW.trod_struct Try.underlying23 hf
  have hl3 : cs.toList.length = 3 := by rw [show (Value.agg cs).cells = cs from rfl] at hl; rw [hl]; kernel_rfl
  have hn3 : xs.length = 3 := hn
  obtain ⟨c0, c1, c2, hcs⟩ : ∃ a b c, cs.toList = [a, b, c] := by
    match hq : cs.toList, hl3 with
    | [a, b, c], _ => exact ⟨a, b, c, rfl⟩
  obtain ⟨x0, x1, x2, rfl⟩ : ∃ a b c, xs = [a, b, c] := by
    match xs, hn3 with
    | [a, b, c], _ => exact ⟨a, b, c, rfl⟩
  rw [show (Value.agg cs).cells = cs from rfl, hcs] at hg
  have g0 : DataW.trod enc Try.prog w base spare held n 3 [c0] = some x0 := by
    have q : DataW.trod enc Try.prog w base spare held n 3 (List.take (Try.prog.cellsOf 3) (List.drop 0 [c0, c1, c2])) = some x0 := hg 0 _ rfl
    rw [os_cellsInt] at q
    exact q
  have g1 : DataW.trod enc Try.prog w base spare held n 5 [c1] = some x1 := by
    have q : DataW.trod enc Try.prog w base spare held n 5 (List.take (Try.prog.cellsOf 5) (List.drop 1 [c0, c1, c2])) = some x1 := hg 1 _ rfl
    rw [cells5] at q
    exact q
  have g2 : DataW.trod enc Try.prog w base spare held n 3 [c2] = some x2 := by
    have q : DataW.trod enc Try.prog w base spare held n 3 (List.take (Try.prog.cellsOf 3) (List.drop 2 [c0, c1, c2])) = some x2 := hg 2 _ rfl
    rw [os_cellsInt] at q
    exact q
  obtain ⟨n0, e0, _, w0⟩ := DataW.trod_int Try.underlying3 g0
  obtain ⟨n1, e1, _, w1⟩ := DataW.trod_int Try.underlying5 g1
  obtain ⟨n2, e2, _, w2⟩ := DataW.trod_int Try.underlying3 g2
  have b1 := u8_bounds w1
  obtain ⟨u, rfl⟩ : ∃ u : UInt8, n1 = (u.toNat : Int) := ⟨UInt8.ofNat n1.toNat, by rw [UInt8.toNat_ofNat']; omega⟩
  simp only [List.cons.injEq, and_true] at e0 e1 e2
  subst e0 e1 e2
  refine ⟨n0, u, n2, ?_, bounds_i64 w2⟩
  have : cs = (chA n0 u n2) := by
    apply Array.toList_inj.1
    rw [hcs]; rfl
  rw [this]
end Go.Proofs.Ytakbapdonngpiaa
