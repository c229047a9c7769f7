
import Derived.Test.YtmdhgadmfcmecaaOpen
import Derived.Test.YtmdhgadmfcmecaaAppV
import Derived.SizedLaws
namespace Go.Proofs.Ytmdhgadmfcmecaa
open Go.ChangeShapes Go.WideShapes Go.ChangeAt Go.RowKit

theorem cells22 : Try.prog.cellsOf 22 = 1 := by kernel_rfl
theorem bytes5 : Try.prog.bytesOf 5 = 1 := by kernel_rfl
/-- How many elements a slice's datum has. -/
def dlen {H : Type} : DataW H → Nat | .slice e _ => e.length | _ => 0
theorem bytes_of_trod {H : Type} {enc : TypeId × Value → H} {w : World} {base : Nat} {spare : Nat → Bool} {held : Bool} {fuel : Nat} {cs : List Value} {x : DataW H × List MemPlace}
    (h : DataW.trod enc Try.prog w base spare held fuel 22 cs = some x) : ∃ (y : Option Addr) (c : Nat) (l : List UInt8), cs = [.slice y l.length c] ∧ IsB w (.slice y l.length c) l ∧ l.length ≤ c ∧ c ≤ maxLen ∧ l.length = dlen x.1 := by
  rcases open_ints Try.underlying22 Try.underlying5 cells5 h with ⟨rfl, rfl⟩ | ⟨a, len, cap, zs, rfl, _, hl, hm, hz, rfl, hcell, hwz⟩
  · exact ⟨none, 0, [], rfl, .inl ⟨rfl, rfl⟩, Nat.le_refl _, Nat.zero_le _, rfl⟩
  · have hlz : len ≤ zs.length := by rw [hz]; split <;> omega
    have hll : ((zs.take len).map fun n => UInt8.ofNat n.toNat).length = len := by simp; omega
    refine ⟨some a, cap, (zs.take len).map fun n => UInt8.ofNat n.toNat, by rw [hll], .inr ⟨a, cap, rfl, fun i hi => ?_⟩, by rw [hll]; exact hl, hm, by rw [hll]; simp [dlen, lits]; omega⟩
    have hi2 : i < len := by omega
    have hb := u8_bounds (hwz (zs[i]'(by omega)) (List.getElem_mem _))
    rw [hcell i (by omega)]
    have e1 : zs.getD i 0 = zs[i]'(by omega) := by simp [List.getD, List.getElem?_eq_getElem (show i < zs.length by omega)]
    rw [e1]
    simp only [List.getElem_map, List.getElem_take, UInt8.toNat_ofNat', Option.some.injEq, Value.int.injEq, true_and]
    omega
theorem open_bytes {H : Type} {enc : TypeId × Value → H} {w : World} {base b0 : Nat} {spare : Nat → Bool} {held : Bool} {r : Reach} {v : Value} {d : DataW H} {ps : List MemPlace}
    (hval : Value.okWide Try.prog w r b0 22 v) (hd : DataW.Trod enc Try.prog w base spare held 22 v d ps) :
    ∃ (y : Option Addr) (c : Nat) (l : List UInt8), v = .slice y l.length c ∧ IsB w (.slice y l.length c) l ∧ l.length ≤ c ∧ c ≤ maxLen ∧ l.length = dlen d := by
  obtain ⟨a, len, cap, rfl⟩ := okWide_slice Try.underlying22 hval
  obtain ⟨fuel, hf⟩ := hd
  obtain ⟨y, c, l, he, h1, h2, h3, h4⟩ := bytes_of_trod hf
  simp only [Value.cells, List.cons.injEq, and_true] at he
  exact ⟨y, c, l, he, h1, h2, h3, h4⟩
/-- The reach of the form pays for an argument's bytes. -/
theorem bytes_sized {H : Type} {ds : List (DataW H)} {ts : List TypeId} {d : DataW H} {j : Nat} (h : (DataW.weightsEach Try.prog ts ds).all (fun x => decide (x ≤ reachBytes)) = true) (ht : ts[j]? = some 22) (hd : ds[j]? = some d) :
    dlen d ≤ 140737488351232 := by
  cases d with
  | slice el sp =>
    have := List.all_eq_true.1 h _ (DataW.weights_mem_each ht hd ((el.length + sp.length) * Try.prog.bytesOf 5) (by
      simp only [DataW.weights, Try.underlying22]
      simp))
    have h2 := of_decide_eq_true this
    rw [bytes5] at h2
    simp only [reachBytes] at h2
    simp only [dlen]
    omega
  | _ => simp [dlen]
theorem i64_bounds {x : Int} (h : (Lit.int .i64 x).wf = true) : -9223372036854775808 ≤ x ∧ x ≤ 9223372036854775807 := bounds_i64 h
theorem u32_bounds {x : Int} (h : (Lit.int .u32 x).wf = true) : 0 ≤ x ∧ x < 4294967296 := by have := bounds_u32 h; omega
theorem cellsInt : Try.prog.cellsOf 3 = 1 := by kernel_rfl
theorem open_intsl {H : Type} {enc : TypeId × Value → H} {w : World} {base b0 : Nat} {spare : Nat → Bool} {held : Bool} {r : Reach} {v : Value} {d : DataW H} {ps : List MemPlace}
    (hval : Value.okWide Try.prog w r b0 23 v) (hd : DataW.Trod enc Try.prog w base spare held 23 v d ps) :
    ∃ (y : Option Addr) (c : Nat) (zs : List Int), v = .slice y zs.length c ∧ IsI w (.slice y zs.length c) zs ∧ zs.length ≤ c ∧ c ≤ maxLen ∧ ∀ z ∈ zs, -9223372036854775808 ≤ z ∧ z ≤ 9223372036854775807 := by
  obtain ⟨a, len, cap, rfl⟩ := okWide_slice Try.underlying23 hval
  obtain ⟨fuel, hf⟩ := hd
  rcases open_ints Try.underlying23 Try.underlying3 cellsInt hf with ⟨he, _⟩ | ⟨a, len, cap, zs, he, _, hl, hm, hz, _, hcell, hwz⟩
  · simp only [Value.cells, List.cons.injEq, and_true] at he
    rw [he]
    exact ⟨none, 0, [], rfl, ⟨none, 0, rfl, fun i hi => by simp at hi⟩, Nat.le_refl _, Nat.zero_le _, by simp⟩
  · simp only [Value.cells, List.cons.injEq, and_true] at he
    rw [he]
    have hlz : len ≤ zs.length := by rw [hz]; split <;> omega
    have hll : (zs.take len).length = len := by simp; omega
    refine ⟨some a, cap, zs.take len, by rw [hll], ⟨some a, cap, rfl, fun i hi => ?_⟩, by rw [hll]; exact hl, hm, fun z h => i64_bounds (hwz z (List.mem_of_mem_take h))⟩
    have hi2 : i < len := by omega
    have hc := hcell i (by omega)
    have hlt := World.block_lt_of_cell? w _ hc
    obtain ⟨b, o, s⟩ := a
    have hs : s = none := by have := World.cell?_spot (hcell 0 (by omega)); simpa [Addr.add] using this
    subst hs
    rw [addr_add] at hc hlt
    refine ⟨b, o, rfl, hlt, ?_⟩
    rw [hc]
    have : i < zs.length := by omega
    simp [List.getD, hi2, this]
theorem open_burst {H : Type} {enc : TypeId × Value → H} {w : World} {base b0 : Nat} {spare : Nat → Bool} {held : Bool} {r : Reach} {v : Value} {d : DataW H} {ps : List MemPlace}
    (hval : Value.okWide Try.prog w r b0 31 v) (hd : DataW.Trod enc Try.prog w base spare held 31 v d ps) :
    ∃ (bit : Int) (pat : Nat), v = .agg #[.int .i64 bit, .int .u32 (pat : Int)] ∧ (-9223372036854775808 ≤ bit ∧ bit ≤ 9223372036854775807) ∧ pat < 4294967296 := by
  obtain ⟨cs, rfl, _⟩ := okWide_struct Try.underlying31 hval
  obtain ⟨fuel, hf⟩ := hd
  obtain ⟨xs, n, _, hx, hl, hn, hg⟩ := DataW.trod_struct Try.underlying31 hf
  have hl2 : cs.toList.length = 2 := by rw [show (Value.agg cs).cells = cs from rfl] at hl; rw [hl]; kernel_rfl
  have hn2 : xs.length = 2 := hn
  obtain ⟨c0, c1, hcs⟩ : ∃ a b, cs.toList = [a, b] := by
    match hq : cs.toList, hl2 with
    | [a, b], _ => exact ⟨a, b, rfl⟩
  obtain ⟨x0, x1, rfl⟩ : ∃ a b, xs = [a, b] := by
    match xs, hn2 with
    | [a, b], _ => exact ⟨a, b, rfl⟩
  rw [show (Value.agg cs).cells = cs from rfl, hcs] at hg
  have cu : Try.prog.cellsOf 26 = 1 := by kernel_rfl
  have g0 : DataW.trod enc Try.prog w base spare held n 3 [c0] = some x0 := by
    have q : DataW.trod enc Try.prog w base spare held n 3 (List.take (Try.prog.cellsOf 3) (List.drop 0 [c0, c1])) = some x0 := hg 0 _ rfl
    rw [cellsInt] at q
    exact q
  have g1 : DataW.trod enc Try.prog w base spare held n 26 [c1] = some x1 := by
    have q : DataW.trod enc Try.prog w base spare held n 26 (List.take (Try.prog.cellsOf 26) (List.drop 1 [c0, c1])) = some x1 := hg 1 _ rfl
    rw [cu] at q
    exact q
  obtain ⟨n0, e0, _, w0⟩ := DataW.trod_int Try.underlying3 g0
  obtain ⟨n1, e1, _, w1⟩ := DataW.trod_int Try.underlying26 g1
  simp only [List.cons.injEq, and_true] at e0 e1
  subst e0 e1
  have hb := u32_bounds w1
  refine ⟨n0, n1.toNat, ?_, i64_bounds w0, by omega⟩
  have : cs = #[.int .i64 n0, .int .u32 n1] := by
    apply Array.toList_inj.1; exact hcs
  rw [this, Int.toNat_of_nonneg hb.1]
end Go.Proofs.Ytmdhgadmfcmecaa
