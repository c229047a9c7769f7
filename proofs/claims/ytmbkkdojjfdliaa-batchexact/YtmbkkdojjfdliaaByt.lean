
import Derived.Test.YtmbkkdojjfdliaaOct
import Derived.Laws.IdiomStrings
namespace Go.Proofs.Ytmbkkdojjfdliaa
open Go.RowKit

/-! Slices of bytes -/
def bytesA (l : List UInt8) : Array Value := (l.map fun b => Value.int .u8 (b.toNat : Int)).toArray
@[simp, go_sem] theorem bytesA_size (l : List UInt8) : (bytesA l).size = l.length := by simp [bytesA]
theorem bytesA_get (l : List UInt8) (i : Nat) (h : i < l.length) : (bytesA l)[i]? = some (Value.int .u8 (l[i].toNat : Int)) := by simp [bytesA, h]
/-- The value v is a slice whose elements are the bytes l. -/
def IsB (w : World) (v : Value) (l : List UInt8) : Prop :=
  (v = .slice none 0 0 ∧ l = []) ∨ ∃ x c, v = .slice (some x) l.length c ∧ ∀ i (h : i < l.length), w.cell? (x.add i) = some (Value.int .u8 (l[i].toNat : Int))
theorem IsB.len {w : World} {v : Value} {l : List UInt8} (h : IsB w v l) : ∃ x c, v = .slice x l.length c := by
  rcases h with ⟨rfl, rfl⟩ | ⟨x, c, rfl, _⟩
  · exact ⟨none, 0, rfl⟩
  · exact ⟨some x, c, rfl⟩
theorem IsB.lt {w : World} {x : Addr} {n c : Nat} {l : List UInt8} (h : IsB w (.slice (some x) n c) l) (h0 : l ≠ []) : x.block < w.heap.size := by
  rcases h with ⟨h, _⟩ | ⟨y, d, he, hc⟩
  · cases h
  · simp only [Value.slice.injEq, Option.some.injEq] at he
    obtain ⟨rfl, _, _⟩ := he
    have h1 : 0 < l.length := List.length_pos_iff.2 h0
    have := World.block_lt_of_cell? w _ (hc 0 h1)
    have e : (x.add 0).block = x.block := by unfold Addr.add; split <;> rfl
    rwa [e] at this
theorem Addr.add_block (x : Addr) (i : Nat) : (x.add i).block = x.block := by unfold Addr.add; split <;> rfl
theorem IsB.below {B : Nat} {w w1 : World} {v : Value} {l : List UInt8} (h : IsB w v l) (hb : Below B w w1) (hB : ∀ x n c, v = .slice (some x) n c → l ≠ [] → x.block < B) : IsB w1 v l := by
  rcases h with h | ⟨x, c, rfl, hc⟩
  · exact .inl h
  · refine .inr ⟨x, c, rfl, fun i hi => ?_⟩
    have h0 : l ≠ [] := by rintro rfl; simp at hi
    rw [hb.cell (by rw [Addr.add_block]; exact hB x _ _ rfl h0)]
    exact hc i hi
theorem IsB.kept {w w1 : World} {v : Value} {l : List UInt8} (h : IsB w v l) (hb : Below w.heap.size w w1) : IsB w1 v l :=
  h.below hb fun x n c e h0 => by subst e; exact h.lt h0
theorem IsB.drew {w : World} {v : Value} {l : List UInt8} (h : IsB w v l) : IsB w.drew v l := h
/-- The sector with the bytes l from a on. -/
def layL (s : Nat → UInt8) (a : Nat) (l : List UInt8) : Nat → UInt8 := fun j => if h : a ≤ j ∧ j < a + l.length then l[j - a]'(by omega) else s j
def layI (s : Nat → UInt8) (a : Int) (l : List UInt8) : Nat → UInt8 := if inB a l.length then layL s a.toNat l else s
theorem layL_nil (s : Nat → UInt8) (a : Nat) : layL s a [] = s := by funext j; unfold layL; rw [dif_neg (by simp)]
theorem secA_lay (s : Nat → UInt8) (o : Nat) (l : List UInt8) (h : o + l.length ≤ 64) :
    ((secA s).toList.take o ++ (bytesA l).toList ++ (secA s).toList.drop (o + l.length)).toArray = secA (layL s o l) := by
  apply Array.ext_getElem?
  intro i
  by_cases hi : i < 64
  · rw [secA_get _ i hi]
    simp only [List.getElem?_toArray, List.append_assoc]
    by_cases h1 : i < o
    · rw [List.getElem?_append_left (by simp; omega), List.getElem?_take, if_pos h1, Array.getElem?_toList, secA_get s i hi]
      unfold layL; rw [dif_neg (by omega)]
    · rw [List.getElem?_append_right (by simp; omega)]
      have e1 : (List.take o (secA s).toList).length = o := by simp; omega
      rw [e1]
      by_cases h2 : i < o + l.length
      · rw [List.getElem?_append_left (by simp; omega), Array.getElem?_toList, bytesA_get l _ (by omega)]
        unfold layL; rw [dif_pos (by omega)]
      · have e2 : (bytesA l).toList.length = l.length := by simp
        rw [List.getElem?_append_right (by omega), e2, List.getElem?_drop, Array.getElem?_toList, show o + l.length + (i - o - l.length) = i by omega, secA_get s i hi]
        unfold layL; rw [dif_neg (by omega)]
  · rw [Array.getElem?_eq_none (by simp; omega), Array.getElem?_eq_none (by simp; omega)]
/-! Bytes read -/
def subL (s : Nat → UInt8) (a n : Nat) : List UInt8 := (List.range n).map fun i => s (a + i)
@[simp] theorem subL_length (s : Nat → UInt8) (a n : Nat) : (subL s a n).length = n := by simp [subL]
theorem subL_get (s : Nat → UInt8) (a n i : Nat) (h : i < (subL s a n).length) : (subL s a n)[i] = s (a + i) := by simp [subL]
theorem info5 : (Try.prog.info? 5).map (fun i => (i.zero, i.size, i.bytes)) = some (some (.int .u8 0), 1, 1) := by kernel_rfl
theorem made_bytes (n : Nat) : madeCells #[Value.int .u8 0] n = bytesA (List.replicate n 0) := by
  apply Array.ext_getElem?
  intro i
  by_cases hi : i < n
  · rw [bytesA_get _ i (by simpa using hi)]; simp [madeCells, hi, Nat.mod_one]
  · rw [Array.getElem?_eq_none (by rw [size_madeCells]; omega), Array.getElem?_eq_none (by simp; omega)]
/-- A block that holds the bytes l. -/
def rowB (w : World) (g : Nat) (l : List UInt8) : Prop := w.heap[g]? = some (.cells (bytesA l) 5 (0, 0))
theorem rowB.cell {w : World} {g : Nat} {l : List UInt8} (h : rowB w g l) (i : Nat) (hi : i < l.length) : w.cell? ⟨g, i, none⟩ = some (Value.int .u8 (l[i].toNat : Int)) := by
  rw [cell_of_row w g i _ _ _ h, bytesA_get l i hi]
theorem rowB.isB {w : World} {g : Nat} {l : List UInt8} (h : rowB w g l) (c : Nat) : IsB w (.slice (some ⟨g, 0, none⟩) l.length c) l :=
  .inr ⟨_, c, rfl, fun i hi => by
    have hadd : (⟨g, 0, none⟩ : Addr).add i = ⟨g, i, none⟩ := by unfold Addr.add; split <;> simp_all
    rw [hadd]; exact h.cell i hi⟩
theorem rowB.lt {w : World} {g : Nat} {l : List UInt8} (h : rowB w g l) : g < w.heap.size := (Array.getElem?_eq_some_iff.1 h).1
theorem rowB.kept {w w1 : World} {g : Nat} {l : List UInt8} (h : rowB w g l) (hb : Below w.heap.size w w1) : rowB w1 g l := by unfold rowB; rw [hb.block g h.lt]; exact h
theorem subL_lay (s : Nat → UInt8) (a : Nat) (l : List UInt8) : subL (layL s a l) a l.length = l := by
  apply List.ext_getElem
  · simp
  · intro i h1 h2
    rw [subL_get]; unfold layL; rw [dif_pos (by omega)]; simp

theorem IsB.spot {w : World} {x : Option Addr} {c : Nat} {l : List UInt8} (hv : IsB w (.slice x l.length c) l) (k : Nat) (hk : k < l.length) :
    ∃ b o, x = some ⟨b, o, none⟩ ∧ b < w.heap.size ∧ w.cell? ⟨b, o + k, none⟩ = some (Value.int .u8 ((l[k]?.getD 0).toNat : Int)) := by
  rcases hv with ⟨_, rfl⟩ | ⟨y, d, he, hc⟩
  · simp at hk
  · simp only [Value.slice.injEq, true_and] at he
    obtain ⟨rfl, rfl⟩ := he
    have h9 := hc k hk
    obtain ⟨b, o, sp⟩ := y
    have hsp : sp = none := by simpa [Addr.add] using World.cell?_spot (hc 0 (by omega))
    subst hsp
    have hlt := World.block_lt_of_cell? w _ h9
    have hadd : (⟨b, o, none⟩ : Addr).add k = ⟨b, o + k, none⟩ := by unfold Addr.add; split <;> simp_all
    rw [hadd] at h9 hlt
    exact ⟨b, o, rfl, hlt, by rw [h9]; simp [hk]⟩

theorem addr_add (b o i : Nat) : (⟨b, o, none⟩ : Addr).add i = ⟨b, o + i, none⟩ := by unfold Addr.add; split <;> simp_all
end Go.Proofs.Ytmbkkdojjfdliaa
