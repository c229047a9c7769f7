
import Derived.Test.YtiokdcffpnjkcaaDoorOct
import Derived.Laws.IdiomStrings
namespace Go.Proofs.YtiokdcffpnjkcaaDoor
open Go.RowKit

/-! Slices of bytes -/
def bytesA (l : List UInt8) : Array Value := (l.map fun b => Value.int .u8 (b.toNat : Int)).toArray
@[simp, go_sem] theorem bytesA_size (l : List UInt8) : (bytesA l).size = l.length := by simp [bytesA]
theorem bytesA_get (l : List UInt8) (i : Nat) (h : i < l.length) : (bytesA l)[i]? = some (Value.int .u8 (l[i].toNat : Int)) := by simp [bytesA, h]
/-- The value v is a slice whose elements are the bytes l. -/
def IsB (w : World) (v : Value) (l : List UInt8) : Prop :=
  (v = .slice none 0 0 ∧ l = []) ∨ ∃ x c, v = .slice (some x) l.length c ∧ ∀ i (h : i < l.length), w.cell? (x.add i) = some (Value.int .u8 (l[i].toNat : Int))
theorem IsB.len {w : World} {v : Value} {l : List UInt8} (h : IsB w v l) : ∃ x c, v = .slice x l.length c := by
  rcases h with ⟨rfl, rfl⟩ | ⟨x, c, rfl, _⟩
  · exact ⟨none, 0, rfl⟩
  · exact ⟨some x, c, rfl⟩
theorem IsB.lt {w : World} {x : Addr} {n c : Nat} {l : List UInt8} (h : IsB w (.slice (some x) n c) l) (h0 : l ≠ []) : x.block < w.heap.size := by
  rcases h with ⟨h, _⟩ | ⟨y, d, he, hc⟩
  · cases h
  · simp only [Value.slice.injEq, Option.some.injEq] at he
    obtain ⟨rfl, _, _⟩ := he
    have h1 : 0 < l.length := List.length_pos_iff.2 h0
    have := World.block_lt_of_cell? w _ (hc 0 h1)
    have e : (x.add 0).block = x.block := by unfold Addr.add; split <;> rfl
    rwa [e] at this
theorem Addr.add_block (x : Addr) (i : Nat) : (x.add i).block = x.block := by unfold Addr.add; split <;> rfl
theorem IsB.below {B : Nat} {w w1 : World} {v : Value} {l : List UInt8} (h : IsB w v l) (hb : Below B w w1) (hB : ∀ x n c, v = .slice (some x) n c → l ≠ [] → x.block < B) : IsB w1 v l := by
  rcases h with h | ⟨x, c, rfl, hc⟩
  · exact .inl h
  · refine .inr ⟨x, c, rfl, fun i hi => ?_⟩
    have h0 : l ≠ [] := by rintro rfl; simp at hi
    rw [hb.cell (by rw [Addr.add_block]; exact hB x _ _ rfl h0)]
    exact hc i hi
theorem IsB.kept {w w1 : World} {v : Value} {l : List UInt8} (h : IsB w v l) (hb : Below w.heap.size w w1) : IsB w1 v l :=
  h.below hb fun x n c e h0 => by subst e; exact h.lt h0
theorem IsB.drew {w : World} {v : Value} {l : List UInt8} (h : IsB w v l) : IsB w.drew v l := h
/-- 'string(b)' -/
theorem IsB.str {w : World} {v : Value} {l : List UInt8} (h : IsB w v l) : (convert 29 9 v).run Tryd.prog w = .ok (.string ⟨l.toArray⟩) w := by
  rcases h with ⟨rfl, rfl⟩ | ⟨x, c, rfl, hc⟩
  · rw [run_convert_bytes_string w _ _ 5 none 0 0 Tryd.underlying29 Tryd.underlying5 Tryd.underlying9]; rfl
  · exact run_convert_bytes_back w _ _ 5 x c l Tryd.underlying29 Tryd.underlying5 Tryd.underlying9 hc
/-- The sector with the bytes l from a on. -/
def layL (s : Nat → UInt8) (a : Nat) (l : List UInt8) : Nat → UInt8 := fun j => if h : a ≤ j ∧ j < a + l.length then l[j - a]'(by omega) else s j
def layI (s : Nat → UInt8) (a : Int) (l : List UInt8) : Nat → UInt8 := if inB a l.length then layL s a.toNat l else s
theorem layL_nil (s : Nat → UInt8) (a : Nat) : layL s a [] = s := by funext j; unfold layL; rw [dif_neg (by simp)]
theorem secA_lay (s : Nat → UInt8) (o : Nat) (l : List UInt8) (h : o + l.length ≤ 64) :
    ((secA s).toList.take o ++ (bytesA l).toList ++ (secA s).toList.drop (o + l.length)).toArray = secA (layL s o l) := by
  apply Array.ext_getElem?
  intro i
  by_cases hi : i < 64
  · rw [secA_get _ i hi]
    simp only [List.getElem?_toArray, List.append_assoc]
    by_cases h1 : i < o
    · rw [List.getElem?_append_left (by simp; omega), List.getElem?_take, if_pos h1, Array.getElem?_toList, secA_get s i hi]
      unfold layL; rw [dif_neg (by omega)]
    · rw [List.getElem?_append_right (by simp; omega)]
      have e1 : (List.take o (secA s).toList).length = o := by simp; omega
      rw [e1]
      by_cases h2 : i < o + l.length
      · rw [List.getElem?_append_left (by simp; omega), Array.getElem?_toList, bytesA_get l _ (by omega)]
        unfold layL; rw [dif_pos (by omega)]
      · have e2 : (bytesA l).toList.length = l.length := by simp
        rw [List.getElem?_append_right (by omega), e2, List.getElem?_drop, Array.getElem?_toList, show o + l.length + (i - o - l.length) = i by omega, secA_get s i hi]
        unfold layL; rw [dif_neg (by omega)]
  · rw [Array.getElem?_eq_none (by simp; omega), Array.getElem?_eq_none (by simp; omega)]
theorem run_copy_into (w : World) (g o dl dc sc : Nat) (x : Addr) (ty : TypeId) (s : Nat → UInt8) (l : List UInt8) (hg : rowOk w g = true) (es : rowAt w g = secA s)
    (hx : ∀ i (h : i < l.length), w.cell? (x.add i) = some (Value.int .u8 (l[i].toNat : Int))) (hm : l.length ≤ dl) (h : o + l.length ≤ 64) :
    (Builtin.copy_ #[29, 29] ty #[.slice (some ⟨g, o, none⟩) dl dc, .slice (some x) l.length sc]).run Tryd.prog w = .ok (goInt l.length) (w.setRow g (secA (layL s o l))) := by
  obtain ⟨tg, hg', _⟩ := row_of_ok hg
  rw [es] at hg'
  have hl : (bytesA l).toList.length = l.length := by simp
  have := run_copy_row (P := Tryd.prog) w 29 29 ty 5 g o dl dc x l.length sc (secA s) tg (bytesA l).toList Tryd.underlying29 (by kernel_rfl) hg' (by rw [hl]; exact (Nat.min_eq_left hm).symm)
    (fun j v hv => by
      have hj : j < l.length := by have := (List.getElem?_eq_some_iff.1 hv).1; simpa using this
      rw [Array.getElem?_toList, bytesA_get l j hj] at hv
      rw [hx j hj]; exact hv) (by rw [hl]; simpa using h) (fun v hv => by
      simp only [bytesA, List.mem_map] at hv
      obtain ⟨b, _, rfl⟩ := hv
      rfl)
  rw [this, hl, secA_lay s o l h]
/-! Bytes read -/
def subL (s : Nat → UInt8) (a n : Nat) : List UInt8 := (List.range n).map fun i => s (a + i)
@[simp] theorem subL_length (s : Nat → UInt8) (a n : Nat) : (subL s a n).length = n := by simp [subL]
theorem subL_get (s : Nat → UInt8) (a n i : Nat) (h : i < (subL s a n).length) : (subL s a n)[i] = s (a + i) := by simp [subL]
theorem info5 : (Tryd.prog.info? 5).map (fun i => (i.zero, i.size, i.bytes)) = some (some (.int .u8 0), 1, 1) := by kernel_rfl
theorem made_bytes (n : Nat) : madeCells #[Value.int .u8 0] n = bytesA (List.replicate n 0) := by
  apply Array.ext_getElem?
  intro i
  by_cases hi : i < n
  · rw [bytesA_get _ i (by simpa using hi)]; simp [madeCells, hi, Nat.mod_one]
  · rw [Array.getElem?_eq_none (by rw [size_madeCells]; omega), Array.getElem?_eq_none (by simp; omega)]
theorem run_mk (w : World) (n : Nat) (h : n ≤ 281474976710656) : (Instr.makeSlice 29 (.int .i64 (n : Int)) (.int .i64 (n : Int))).run Tryd.prog w =
    .ok (.slice (some ⟨w.heap.size, 0, none⟩) n n) (w.alloc (.cells (bytesA (List.replicate n 0)) 5)) := by
  obtain ⟨i, hi, hzz⟩ := Option.map_eq_some_iff.1 info5
  simp only [Prod.mk.injEq] at hzz
  obtain ⟨hz, hs, hb⟩ := hzz
  have hr := run_make (P := Tryd.prog) w 29 5 i _ Tryd.underlying29 hi hz .i64 .i64 n n (by omega) (by omega) (by rw [hb]; omega) (by omega)
  simp only [Int.toNat_natCast, hs, Nat.mul_one] at hr
  rw [hr, ← made_bytes]; rfl
/-- A block that holds the bytes l. -/
def rowB (w : World) (g : Nat) (l : List UInt8) : Prop := w.heap[g]? = some (.cells (bytesA l) 5 (0, 0))
theorem rowB.cell {w : World} {g : Nat} {l : List UInt8} (h : rowB w g l) (i : Nat) (hi : i < l.length) : w.cell? ⟨g, i, none⟩ = some (Value.int .u8 (l[i].toNat : Int)) := by
  rw [cell_of_row w g i _ _ _ h, bytesA_get l i hi]
theorem rowB.isB {w : World} {g : Nat} {l : List UInt8} (h : rowB w g l) (c : Nat) : IsB w (.slice (some ⟨g, 0, none⟩) l.length c) l :=
  .inr ⟨_, c, rfl, fun i hi => by
    have hadd : (⟨g, 0, none⟩ : Addr).add i = ⟨g, i, none⟩ := by unfold Addr.add; split <;> simp_all
    rw [hadd]; exact h.cell i hi⟩
theorem rowB.lt {w : World} {g : Nat} {l : List UInt8} (h : rowB w g l) : g < w.heap.size := (Array.getElem?_eq_some_iff.1 h).1
theorem rowB.kept {w w1 : World} {g : Nat} {l : List UInt8} (h : rowB w g l) (hb : Below w.heap.size w w1) : rowB w1 g l := by unfold rowB; rw [hb.block g h.lt]; exact h
theorem run_copy_out (w : World) (g b p n dc sc : Nat) (ty : TypeId) (s : Nat → UInt8) (hg : rowB w g (List.replicate n 0)) (hb : rowOk w b = true) (es : rowAt w b = secA s) (h : p + n ≤ 64) :
    (Builtin.copy_ #[29, 29] ty #[.slice (some ⟨g, 0, none⟩) n dc, .slice (some ⟨b, p, none⟩) n sc]).run Tryd.prog w = .ok (goInt n) (w.setRow g (bytesA (subL s p n))) := by
  obtain ⟨tb, hb', _⟩ := row_of_ok hb
  rw [es] at hb'
  have hl : (bytesA (subL s p n)).toList.length = n := by simp
  have hadd : ∀ j, (⟨b, p, none⟩ : Addr).add j = ⟨b, p + j, none⟩ := fun j => by unfold Addr.add; split <;> simp_all
  have := run_copy_row (P := Tryd.prog) w 29 29 ty 5 g 0 n dc ⟨b, p, none⟩ n sc (bytesA (List.replicate n 0)) 5 (bytesA (subL s p n)).toList Tryd.underlying29 (by kernel_rfl) hg (by simp)
    (fun j v hv => by
      have hj : j < (subL s p n).length := by have := (List.getElem?_eq_some_iff.1 hv).1; simpa using this
      rw [Array.getElem?_toList, bytesA_get _ j hj, subL_get] at hv
      rw [hadd, cell_of_row w b (p + j) _ tb _ hb', secA_get s _ (by simp at hj; omega)]; exact hv) (by simp) (fun v hv => by
      simp only [bytesA, List.mem_map] at hv
      obtain ⟨b, _, rfl⟩ := hv
      rfl)
  rw [this, hl, List.drop_of_length_le (by simp)]
  simp
theorem subL_lay (s : Nat → UInt8) (a : Nat) (l : List UInt8) : subL (layL s a l) a l.length = l := by
  apply List.ext_getElem
  · simp
  · intro i h1 h2
    rw [subL_get]; unfold layL; rw [dif_pos (by omega)]; simp

theorem IsB.spot {w : World} {x : Option Addr} {c : Nat} {l : List UInt8} (hv : IsB w (.slice x l.length c) l) (k : Nat) (hk : k < l.length) :
    ∃ b o, x = some ⟨b, o, none⟩ ∧ b < w.heap.size ∧ w.cell? ⟨b, o + k, none⟩ = some (Value.int .u8 ((l[k]?.getD 0).toNat : Int)) := by
  rcases hv with ⟨_, rfl⟩ | ⟨y, d, he, hc⟩
  · simp at hk
  · simp only [Value.slice.injEq, true_and] at he
    obtain ⟨rfl, rfl⟩ := he
    have h9 := hc k hk
    obtain ⟨b, o, sp⟩ := y
    have hsp : sp = none := by simpa [Addr.add] using World.cell?_spot (hc 0 (by omega))
    subst hsp
    have hlt := World.block_lt_of_cell? w _ h9
    have hadd : (⟨b, o, none⟩ : Addr).add k = ⟨b, o + k, none⟩ := by unfold Addr.add; split <;> simp_all
    rw [hadd] at h9 hlt
    exact ⟨b, o, rfl, hlt, by rw [h9]; simp [hk]⟩

theorem addr_add (b o i : Nat) : (⟨b, o, none⟩ : Addr).add i = ⟨b, o + i, none⟩ := by unfold Addr.add; split <;> simp_all
end Go.Proofs.YtiokdcffpnjkcaaDoor
