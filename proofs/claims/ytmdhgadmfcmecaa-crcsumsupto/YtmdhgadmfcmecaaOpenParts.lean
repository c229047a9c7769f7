
import Derived.Test.YtmdhgadmfcmecaaOpenCrc
import Derived.JoinedCond
namespace Go.Proofs.Ytmdhgadmfcmecaa
open Go.ChangeShapes Go.WideShapes Go.ChangeAt Go.RowKit

/-! Opening a slice of slices of bytes, and what the bound gives. -/
theorem bulk_pos {H : Type} (d : DataW H) : 1 ≤ Rows.uptoBulk d := by
  cases d with
  | lit l => cases l <;> simp [Rows.uptoBulk]
  | _ => simp [Rows.uptoBulk]
theorem bulk_len {H : Type} (l : List (DataW H)) : l.length ≤ Rows.uptoBulkAll l := by
  induction l with
  | nil => simp [Rows.uptoBulkAll]
  | cons x r ih => have := bulk_pos x; simp only [Rows.uptoBulkAll, List.length_cons]; omega
theorem bulk_dlen {H : Type} (d : DataW H) : dlen d + 1 ≤ Rows.uptoBulk d := by
  cases d with
  | slice el sp => have := bulk_len el; simp only [dlen, Rows.uptoBulk]; omega
  | _ => exact bulk_pos _
theorem bulk_all {H : Type} : ∀ (ds : List (DataW H)) (ls : List (List UInt8)), ls.length = ds.length → (∀ i (h : i < ls.length) (h' : i < ds.length), (ls[i]).length = dlen ds[i]) → ls.flatten.length + ls.length ≤ Rows.uptoBulkAll ds
  | [], [], _, _ => by simp [Rows.uptoBulkAll]
  | [], _ :: _, h, _ => by simp at h
  | _ :: _, [], h, _ => by simp at h
  | d :: ds, l :: ls, h, hi => by
    have h1 := bulk_all ds ls (by simpa using h) (fun i a b => by
      have := hi (i + 1) (by simpa using a) (by simpa using b)
      simpa using this)
    have h2 := bulk_dlen d
    have h3 : l.length = dlen d := hi 0 (by simp) (by simp)
    simp only [Rows.uptoBulkAll, List.flatten_cons, List.length_append, List.length_cons]
    omega
theorem mem_flat_le {l : List UInt8} {ls : List (List UInt8)} (h : l ∈ ls) : l.length ≤ ls.flatten.length := by
  induction ls with
  | nil => cases h
  | cons a r ih =>
    rw [List.flatten_cons, List.length_append]
    rcases List.mem_cons.1 h with rfl | h
    · omega
    · have := ih h; omega
theorem list_of {n : Nat} {P : Nat → List UInt8 → Prop} (h : ∀ i, i < n → ∃ l, P i l) : ∃ ls : List (List UInt8), ls.length = n ∧ ∀ i (hi : i < ls.length), P i ls[i] := by
  refine ⟨List.ofFn fun i : Fin n => Classical.choose (h i.1 i.2), by simp, fun i hi => ?_⟩
  have hn : i < n := by simpa using hi
  rw [List.getElem_ofFn]
  exact Classical.choose_spec (h i hn)
theorem open_parts {H : Type} {enc : TypeId × Value → H} {w : World} {base b0 : Nat} {spare : Nat → Bool} {held : Bool} {r : Reach} {v : Value} {d : DataW H} {ps : List MemPlace}
    (hval : Value.okWide Try.prog w r b0 25 v) (hd : DataW.Trod enc Try.prog w base spare held 25 v d ps) :
    ∃ (y : Option Addr) (c : Nat) (ls : List (List UInt8)), v = .slice y ls.length c ∧ IsBB w (.slice y ls.length c) ls ∧ ls.flatten.length + ls.length ≤ Rows.uptoBulk d := by
  obtain ⟨a, len, cap, rfl⟩ := okWide_slice Try.underlying25 hval
  obtain ⟨fuel, hf⟩ := hd
  rcases DataW.trod_slice Try.underlying25 hf with ⟨he, _⟩ | ⟨a, len, cap, elems, rest, n, _, he, hx, _, hl, hm, hlen, hel, _, _⟩
  · simp only [Value.cells, List.cons.injEq, and_true] at he
    rw [he]
    exact ⟨none, 0, [], rfl, .inl ⟨rfl, rfl⟩, by simp⟩
  · simp only [Value.cells, List.cons.injEq, and_true] at he
    rw [he]
    simp only [Prod.mk.injEq] at hx
    have each : ∀ i, i < len → ∃ l : List UInt8, ∃ u y, w.cell? (a.add i) = some u ∧ IsB w u l ∧ elems[i]? = some y ∧ l.length = dlen y.1 := fun i hi => by
      have h1 := hel i hi
      have h2 : i < elems.length := by omega
      rw [List.getElem?_eq_getElem h2, cells22, Nat.mul_one, Option.bind_eq_some_iff] at h1
      obtain ⟨cs, hcs, hy⟩ := h1
      obtain ⟨z, c, l, rfl, h3, _, _, h4⟩ := bytes_of_trod hy
      exact ⟨l, _, elems[i], cell_of_cells?_one hcs, h3, List.getElem?_eq_getElem h2, h4⟩
    obtain ⟨ls, hls, hP⟩ := list_of each
    refine ⟨some a, cap, ls, by rw [hls], .inr ⟨a, cap, rfl, fun i hi => ?_⟩, ?_⟩
    · obtain ⟨u, y, h1, h2, _, _⟩ := hP i hi
      exact ⟨u, h1, h2⟩
    · have := bulk_all (elems.map (·.1)) ls (by rw [hls, List.length_map, hlen]) (fun i h1 h2 => by
        obtain ⟨u, y, _, _, h5, h6⟩ := hP i h1
        have h7 : i < elems.length := by simpa using h2
        rw [List.getElem?_eq_getElem h7] at h5
        cases h5
        rw [h6, List.getElem_map])
      rw [hx.1]
      simp only [Rows.uptoBulk]
      omega
end Go.Proofs.Ytmdhgadmfcmecaa
