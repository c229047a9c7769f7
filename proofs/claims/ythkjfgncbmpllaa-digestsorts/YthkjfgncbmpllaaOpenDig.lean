
import Derived.Test.YthkjfgncbmpllaaOpen
import Derived.Test.YthkjfgncbmpllaaDsT
import Derived.Test.YthkjfgncbmpllaaRows
import Derived.SizedLaws
import Derived.JoinedCond
namespace Go.Proofs.Ythkjfgncbmpllaa
open Go.ChangeShapes Go.WideShapes Go.ChangeAt Go.RowKit

/-! Opening a digest, a string, a slice of digests; what a bound gives -/
theorem cellsDg : Try.prog.cellsOf 23 = 32 := by kernel_rfl
theorem bytesDg : Try.prog.bytesOf 23 = 32 := by kernel_rfl
theorem dg_of_trod {H : Type} {enc : TypeId × Value → H} {w : World} {base : Nat} {spare : Nat → Bool} {held : Bool} {fuel : Nat} {cs : List Value} {x : DataW H × List MemPlace}
    (h : DataW.trod enc Try.prog w base spare held fuel 23 cs = some x) : ∃ s, cs = (dg_secA s).toList := by
  obtain ⟨xs, m, _, _, hl, hn, hx⟩ := DataW.trod_array Try.underlying23 h
  rw [cellsDg] at hl
  obtain ⟨s, hs⟩ := dg_secA_of cs.toArray (by simpa using hl) (fun i hi => by
    have h1 := hx i hi
    rw [cells5, Nat.mul_one, List.getElem?_eq_getElem (by omega)] at h1
    obtain ⟨n, hc, _, hw⟩ := DataW.trod_int Try.underlying5 h1
    refine ⟨n, ?_, u8_bounds hw⟩
    have h2 : ((cs.drop i).take 1)[0]? = some (Value.int .u8 n) := by rw [hc]; rfl
    rw [List.getElem?_take, if_pos (by omega), List.getElem?_drop] at h2
    simpa using h2)
  exact ⟨s, by rw [← hs]⟩
theorem open_dg {H : Type} {enc : TypeId × Value → H} {w : World} {base b0 : Nat} {spare : Nat → Bool} {held : Bool} {r : Reach} {v : Value} {d : DataW H} {ps : List MemPlace}
    (hval : Value.okWide Try.prog w r b0 23 v) (hd : DataW.Trod enc Try.prog w base spare held 23 v d ps) : ∃ s, v = .agg (dg_secA s) := by
  simp only [Value.okWide, Try.underlying23] at hval
  obtain ⟨cs, rfl, _⟩ := hval
  obtain ⟨fuel, hf⟩ := hd
  obtain ⟨s, hs⟩ := dg_of_trod hf
  simp only [Value.cells] at hs
  exact ⟨s, by rw [Array.toList_inj.1 hs]⟩
theorem open_str {H : Type} {enc : TypeId × Value → H} {w : World} {base b0 : Nat} {spare : Nat → Bool} {held : Bool} {r : Reach} {v : Value} {d : DataW H} {ps : List MemPlace}
    (hval : Value.okWide Try.prog w r b0 9 v) (hd : DataW.Trod enc Try.prog w base spare held 9 v d ps) : ∃ l : List UInt8, v = .string ⟨l.toArray⟩ := by
  obtain ⟨s, rfl, -, -, -⟩ := Go.ChangeMaps.open_string Try.underlying9 hval hd
  exact ⟨s.data.toList, by cases s; simp⟩
/-- How many elements a slice's datum has. -/
def dlenD {H : Type} : DataW H → Nat | .slice e _ => e.length | _ => 0
theorem list_dgs {n : Nat} {P : Nat → Dg → Prop} (h : ∀ i, i < n → ∃ l, P i l) : ∃ ls : List Dg, ls.length = n ∧ ∀ i (hi : i < ls.length), P i ls[i] := by
  refine ⟨List.ofFn fun i : Fin n => Classical.choose (h i.1 i.2), by simp, fun i hi => ?_⟩
  have hn : i < n := by simpa using hi
  rw [List.getElem_ofFn]
  exact Classical.choose_spec (h i hn)
theorem spot_of_cells {w : World} {base : Nat} {a : Addr} {L : List Value} (h : w.cells? base (a.add (0 * 32)) 32 = some L) : a.spot = none := by
  obtain ⟨_, hcl, hcc⟩ := World.cells?_some h
  have h9 := hcc 0 (by omega)
  rw [List.getElem?_eq_getElem (show 0 < L.length by omega)] at h9
  have := World.cell?_spot h9
  simpa [Addr.add] using this
theorem range_of_cells {w : World} {base b p o : Nat} {L : List Value} (h : w.cells? base ((⟨b, p, none⟩ : Addr).add o) 32 = some L) : b < w.heap.size ∧ w.rangeAt b (p + o) L := by
  have hlt := World.cells?_block h (by omega)
  obtain ⟨_, hcl, hcc⟩ := World.cells?_some h
  rw [addr_add] at hlt
  refine ⟨hlt, fun j u hj => ?_⟩
  have hj32 : j < 32 := by have := (List.getElem?_eq_some_iff.1 hj).1; omega
  have h9 := hcc j hj32
  rw [addr_add, addr_add] at h9
  rw [h9]; exact hj
theorem open_dgs {H : Type} {enc : TypeId × Value → H} {w : World} {base b0 : Nat} {spare : Nat → Bool} {held : Bool} {r : Reach} {v : Value} {d : DataW H} {ps : List MemPlace}
    (hval : Value.okWide Try.prog w r b0 31 v) (hd : DataW.Trod enc Try.prog w base spare held 31 v d ps) :
    ∃ (y : Option Addr) (c : Nat) (ds : List Dg), v = .slice y ds.length c ∧ IsDs w (.slice y ds.length c) ds ∧ ds.length ≤ c ∧ c ≤ maxLen ∧ ds.length = dlenD d := by
  obtain ⟨a, len, cap, rfl⟩ := okWide_slice Try.underlying31 hval
  obtain ⟨fuel, hf⟩ := hd
  rcases DataW.trod_slice Try.underlying31 hf with ⟨he, hx⟩ | ⟨a, len, cap, elems, rest, n, _, he, hx, _, hl, hm, hlen, hel, _, _⟩
  · simp only [Value.cells, List.cons.injEq, and_true] at he
    rw [he]
    simp only [Prod.mk.injEq] at hx
    exact ⟨none, 0, [], rfl, ⟨none, 0, rfl, Nat.le_refl _, fun i o h => by simp at h⟩, Nat.le_refl _, Nat.zero_le _, by rw [hx.1]; rfl⟩
  · simp only [Value.cells, List.cons.injEq, and_true] at he
    rw [he]
    simp only [Prod.mk.injEq] at hx
    have each : ∀ i, i < len → ∃ s : Dg, ∃ b p, a = ⟨b, p, none⟩ ∧ b < w.heap.size ∧ w.rangeAt b (p + i * 32) (dg_secA s).toList := fun i hi => by
      have h1 := hel i hi
      rw [List.getElem?_eq_getElem (show i < elems.length by omega), cellsDg, Option.bind_eq_some_iff] at h1
      obtain ⟨cs, hcs, hy⟩ := h1
      have hsp : a.spot = none := by
        have h3 := hel 0 (by omega)
        rw [List.getElem?_eq_getElem (show 0 < elems.length by omega), cellsDg, Option.bind_eq_some_iff] at h3
        obtain ⟨cs', hcs', _⟩ := h3
        exact spot_of_cells hcs'
      obtain ⟨b, p, sp⟩ := a
      simp only at hsp
      subst hsp
      obtain ⟨e2, e3⟩ := range_of_cells hcs
      obtain ⟨s, hs⟩ := dg_of_trod hy
      rw [hs] at e3
      exact ⟨s, b, p, rfl, e2, e3⟩
    obtain ⟨ds, hos, hP⟩ := list_dgs each
    refine ⟨some a, cap, ds, by rw [hos], ⟨some a, cap, rfl, by omega, fun i s hi => ?_⟩, by omega, hm, ?_⟩
    · obtain ⟨hi', rfl⟩ := List.getElem?_eq_some_iff.1 hi
      obtain ⟨b, p, rfl, h1, h2⟩ := hP i hi'
      exact ⟨b, p, rfl, h1, h2⟩
    · rw [hx.1, hos]
      simp only [dlenD, List.length_map]
      omega
theorem dgs_sized {H : Type} {ds : List (DataW H)} {ts : List TypeId} {d : DataW H} {j : Nat} (h : (DataW.weightsEach Try.prog ts ds).all (fun x => decide (x ≤ reachBytes)) = true) (ht : ts[j]? = some 31) (hd : ds[j]? = some d) :
    dlenD d * 32 ≤ 140737488351232 := by
  cases d with
  | slice el sp =>
    have := List.all_eq_true.1 h _ (DataW.weights_mem_each ht hd ((el.length + sp.length) * Try.prog.bytesOf 23) (by
      simp only [DataW.weights, Try.underlying31]
      simp))
    have h2 := of_decide_eq_true this
    rw [bytesDg] at h2
    simp only [reachBytes] at h2
    simp only [dlenD]
    omega
  | _ => simp [dlenD]
theorem bulk_posD {H : Type} (d : DataW H) : 1 ≤ Rows.uptoBulk d := by
  cases d with
  | lit l => cases l <;> simp [Rows.uptoBulk]
  | _ => simp [Rows.uptoBulk]
theorem bulk_lenD {H : Type} (l : List (DataW H)) : l.length ≤ Rows.uptoBulkAll l := by
  induction l with
  | nil => simp [Rows.uptoBulkAll]
  | cons x r ih => have := bulk_posD x; simp only [Rows.uptoBulkAll, List.length_cons]; omega
theorem bulk_dlenD {H : Type} (d : DataW H) : dlenD d + 1 ≤ Rows.uptoBulk d := by
  cases d with
  | slice el sp => have := bulk_lenD el; simp only [dlenD, Rows.uptoBulk]; omega
  | _ => exact bulk_posD _
end Go.Proofs.Ythkjfgncbmpllaa
