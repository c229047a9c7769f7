import Derived.Test.YtklbdhpnbjhgkaaGreatDoorQOpen
import Derived.Test.YtklbdhpnbjhgkaaGreatDoorQNum
import Derived.SizedLaws
namespace Go.Proofs.YtklbdhpnbjhgkaaGreatDoor
open Go.ChangeShapes Go.WideShapes Go.ChangeAt Go.RowKit

theorem bytes5 : Tryz.prog.bytesOf 5 = 1 := by kernel_rfl
/-- How many elements a slice's datum has. -/
def dlen {H : Type} : DataW H → Nat | .slice e _ => e.length | _ => 0
set_option maxRecDepth 100000 in
theorem bytes_of_trod {H : Type} {enc : TypeId × Value → H} {w : World} {base : Nat} {spare : Nat → Bool} {held : Bool} {fuel : Nat} {cs : List Value} {x : DataW H × List MemPlace}
    (h : DataW.trod enc Tryz.prog w base spare held fuel 33 cs = some x) : ∃ (y : Option Addr) (c : Nat) (l : List UInt8), cs = [.slice y l.length c] ∧ IsB w (.slice y l.length c) l ∧ l.length ≤ c ∧ c ≤ maxLen ∧ l.length = dlen x.1 := by
  rcases open_ints Tryz.underlying33 Tryz.underlying5 cells5 h with ⟨rfl, rfl⟩ | ⟨a, len, cap, zs, rfl, _, hl, hm, hz, rfl, hcell, hwz⟩
  · exact ⟨none, 0, [], rfl, .inl ⟨rfl, rfl⟩, Nat.le_refl _, Nat.zero_le _, rfl⟩
  · have hlz : len ≤ zs.length := by rw [hz]; split <;> omega
    have hll : ((zs.take len).map fun n => UInt8.ofNat n.toNat).length = len := by simp; omega
    refine ⟨some a, cap, (zs.take len).map fun n => UInt8.ofNat n.toNat, by rw [hll], .inr ⟨a, cap, rfl, fun i hi => ?_⟩, by rw [hll]; exact hl, hm, by rw [hll]; simp [dlen, lits]; omega⟩
    have hi2 : i < len := by omega
    have hb := u8_bounds (hwz (zs[i]'(by omega)) (List.getElem_mem _))
    rw [hcell i (by omega)]
    have e1 : zs.getD i 0 = zs[i]'(by omega) := by simp [List.getD, List.getElem?_eq_getElem (show i < zs.length by omega)]
    rw [e1]
    simp only [List.getElem_map, List.getElem_take, UInt8.toNat_ofNat', Option.some.injEq, Value.int.injEq, true_and]
    omega
set_option maxRecDepth 100000 in
theorem open_bytes {H : Type} {enc : TypeId × Value → H} {w : World} {base b0 : Nat} {spare : Nat → Bool} {held : Bool} {r : Reach} {v : Value} {d : DataW H} {ps : List MemPlace}
    (hval : Value.okWide Tryz.prog w r b0 33 v) (hd : DataW.Trod enc Tryz.prog w base spare held 33 v d ps) :
    ∃ (y : Option Addr) (c : Nat) (l : List UInt8), v = .slice y l.length c ∧ IsB w (.slice y l.length c) l ∧ l.length ≤ c ∧ c ≤ maxLen ∧ l.length = dlen d := by
  obtain ⟨a, len, cap, rfl⟩ := okWide_slice Tryz.underlying33 hval
  obtain ⟨fuel, hf⟩ := hd
  obtain ⟨y, c, l, he, h1, h2, h3, h4⟩ := bytes_of_trod hf
  simp only [Value.cells, List.cons.injEq, and_true] at he
  exact ⟨y, c, l, he, h1, h2, h3, h4⟩
set_option maxRecDepth 100000 in
/-- The reach of the form pays for an argument's bytes. -/
theorem bytes_sized {H : Type} {ds : List (DataW H)} {ts : List TypeId} {d : DataW H} {j : Nat} (h : (DataW.weightsEach Tryz.prog ts ds).all (fun x => decide (x ≤ reachBytes)) = true) (ht : ts[j]? = some 33) (hd : ds[j]? = some d) :
    dlen d ≤ 140737488351232 := by
  cases d with
  | slice el sp =>
    have := List.all_eq_true.1 h _ (DataW.weights_mem_each ht hd ((el.length + sp.length) * Tryz.prog.bytesOf 5) (by
      simp only [DataW.weights, Tryz.underlying33]
      simp))
    have h2 := of_decide_eq_true this
    rw [bytes5] at h2
    simp only [reachBytes] at h2
    simp only [dlen]
    omega
  | _ => simp [dlen]
end Go.Proofs.YtklbdhpnbjhgkaaGreatDoor
