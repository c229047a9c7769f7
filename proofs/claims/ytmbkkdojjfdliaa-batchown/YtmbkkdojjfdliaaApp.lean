
import Derived.Test.YtmbkkdojjfdliaaByt
import Derived.Test.YtmbkkdojjfdliaaKept
import Derived.Test.YtmbkkdojjfdliaaRelt
import Derived.Deep.MidRow
import Derived.Deep.AppendSrc
import Derived.Deep.AppendLies
import Derived.Deep.DeepCutAuto
namespace Go.Proofs.Ytmbkkdojjfdliaa
open Go.RowKit

/-- A row that holds a sector. -/
def Row (w : World) (g : Nat) (s : Nat → UInt8) : Prop := rowOk w g = true ∧ rowAt w g = secA s
theorem Row.kept {w w1 : World} {g : Nat} {s : Nat → UInt8} (h : Row w g s) (hb : Below w.heap.size w w1) : Row w1 g s := keepRow hb (lt_of_rowOk h.1) h.1 h.2
theorem Row.new (w : World) (s : Nat → UInt8) (t : TypeId) : Row (w.alloc (.cells (secA s) t)) w.heap.size s := ⟨rowOk_new _ _ _ _ rfl (secA_size _), rowAt_new _ _ _ _ rfl⟩
theorem Row.lt {w : World} {g : Nat} {s : Nat → UInt8} (h : Row w g s) : g < w.heap.size := lt_of_rowOk h.1
theorem Row.cell {w : World} {g : Nat} {s : Nat → UInt8} (h : Row w g s) (i : Nat) (hi : i < 64) : w.cell? ⟨g, i, none⟩ = some (Value.int .u8 ((s i).toNat : Int)) := by
  rw [cell_rowAt h.1, h.2, secA_get s i hi]
theorem grow_drew {W X : World} (h : Below W.heap.size W X) : Below W.heap.size W X.drew := h.drew
theorem grow_alloc {W X : World} (h : Below W.heap.size W X) (o : Obj) : Below W.heap.size W (X.alloc o) := h.alloc h.size o
theorem grow_call {W X w1 : World} (h : Below W.heap.size W X) (hb : Below X.heap.size X w1) : Below W.heap.size W w1 := h.trans (hb.mono h.size)
theorem grow_row {W X : World} (h : Below W.heap.size W X) (g : Nat) (hg : W.heap.size ≤ g) (c : Array Value) : Below W.heap.size W (X.setRow g c) := below_row h hg c
/-! 'append([]byte{}, b...)' -/
theorem bytesA_one (l : List UInt8) : ∀ u ∈ (bytesA l).toList, u.oneCell' = true := fun v hv => by
  simp only [bytesA, List.mem_map] at hv
  obtain ⟨b, _, rfl⟩ := hv
  rfl
def appA (l : List UInt8) (w : World) : Array Value := (bytesA l).toList.toArray ++ Builtin.zeroCells (Value.int .u8 0).cells (grownCap w l.length 0 5 - l.length)
theorem isB_app (w X : World) (l : List UInt8) (cap : Nat) : IsB (w.alloc (.cells (appA l X) 5)) (.slice (some ⟨w.heap.size, 0, none⟩) l.length cap) l := by
  refine .inr ⟨_, cap, rfl, fun i hi => ?_⟩
  have hadd : (⟨w.heap.size, 0, none⟩ : Addr).add i = ⟨w.heap.size, i, none⟩ := by unfold Addr.add; split <;> simp_all
  rw [hadd, World.cell?_alloc_at _ _ _ _ rfl]
  unfold appA
  rw [Array.getElem?_append_left (by simpa using hi), Array.toArray_toList, bytesA_get l i hi]
/-! A slice of bytes of the call's own, and append of one byte -/
def OwnB (w : World) (base : Nat) (v : Value) (l : List UInt8) : Prop := w.ownsRow base 5 1 v l.length (bytesA l).toList
theorem OwnB.isB {w : World} {base : Nat} {v : Value} {l : List UInt8} (h : OwnB w base v l) : IsB w v l := by
  have h' := h
  obtain ⟨_, ⟨rfl, hn⟩ | ⟨g, cap, cur, rfl, hb, hg, hle, hm, hs, ht⟩⟩ := h
  · exact .inl ⟨rfl, List.eq_nil_of_length_eq_zero hn⟩
  · refine .inr ⟨_, cap, rfl, fun i hi => ?_⟩
    have := h'.cells (g := g) rfl i (Value.int .u8 (l[i].toNat : Int)) (by rw [Array.getElem?_toList, bytesA_get l i hi])
    exact this
theorem OwnB.nil (w : World) (base : Nat) : OwnB w base (.slice none 0 0) [] := World.ownsRow_nil w base 5 1
theorem below_grown {w w' : World} {base : Nat} {v : Value} {l : List UInt8} (h : OwnB w base v l) (hg : w.grownBy w' v.ownBlock) (hb : base ≤ w.heap.size) : Below base w w' :=
  ⟨hg.os, hg.tape, hg.output, hg.size, fun k hk => hg.block k (by omega) (fun e => by have := h.lt k e.symm; omega)⟩
theorem OwnB.keep {w w' : World} {base : Nat} {v : Value} {l : List UInt8} (h : OwnB w base v l) (hb : Below w.heap.size w w') : OwnB w' base v l :=
  World.ownsRow.kept h (row := none) ⟨hb.os, hb.tape, hb.output, hb.size, fun k hk _ => hb.block k hk⟩ (by
    rcases h.2 with ⟨rfl, _⟩ | ⟨g, cap, cur, rfl, _⟩
    · exact .inl rfl
    · exact .inr (by simp [Value.ownBlock]))
theorem IsB.set {w : World} {g o n c : Nat} {f : Nat → UInt8} (h : IsB w (.slice (some ⟨g, o, none⟩) n c) (subL f 0 n)) (j : Nat) (b : UInt8) (x : Int) (hj : j < n) (hx : x = (b.toNat : Int)) :
    IsB (w.setCell ⟨g, o + j, none⟩ (.int .u8 x)) (.slice (some ⟨g, o, none⟩) n c) (subL (upd f j b) 0 n) := by
  rcases h with ⟨h, _⟩ | ⟨y, d, he, hc⟩
  · cases h
  · simp only [Value.slice.injEq, Option.some.injEq] at he
    obtain ⟨rfl, _, rfl⟩ := he
    refine .inr ⟨⟨g, o, none⟩, c, by simp, fun i hi => ?_⟩
    have hin : i < n := by simpa using hi
    have h1 := hc i (by simpa using hin)
    rw [addr_add] at h1 ⊢
    rw [subL_get, Nat.zero_add] at h1 ⊢
    by_cases hij : i = j
    · subst hij
      rw [World.cell?_setCell_same (h := h1)]
      simp [upd, hx]
    · have hne : (⟨g, o + j, none⟩ : Addr) ≠ ⟨g, o + i, none⟩ := fun e => hij (by injection e; omega)
      rw [World.cell?_setCell_other (h := hne), h1]
      simp [upd, hij]
/-! append(nil, b...) -/
theorem OwnB.form {w : World} {base : Nat} {v : Value} {l : List UInt8} (h : OwnB w base v l) (h0 : l ≠ []) : ∃ g c, v = .slice (some ⟨g, 0, none⟩) l.length c ∧ base ≤ g ∧ l.length ≤ c ∧ c ≤ maxLen := by
  obtain ⟨_, ⟨rfl, hn⟩ | ⟨g, cap, cur, rfl, hb, hg, hle, hm, hs, ht⟩⟩ := h
  · exact absurd (List.eq_nil_of_length_eq_zero hn) h0
  · exact ⟨g, cap, rfl, hb, hle, hm⟩
/-- A part of a slice of bytes. -/
theorem IsB.part {w : World} {x : Option Addr} {c : Nat} {l : List UInt8} (h : IsB w (.slice x l.length c) l) (f n : Nat) (hn : f + n ≤ l.length) (hc : l.length ≤ c) :
    ∃ y d, sliced x f (f + n) c 1 = .slice y n d ∧ n ≤ d ∧ d ≤ c ∧ IsB w (.slice y n d) ((l.drop f).take n) := by
  have e0 : f + n - f = n := by omega
  unfold sliced
  rw [e0]
  refine ⟨_, _, rfl, by omega, by omega, ?_⟩
  have hln : ((l.drop f).take n).length = n := by simp; omega
  rcases h with ⟨h, rfl⟩ | ⟨y, d, he, hcell⟩
  · simp only [Value.slice.injEq] at h
    obtain ⟨rfl, _, rfl⟩ := h
    simp at hn
    obtain ⟨rfl, rfl⟩ := hn
    exact .inl ⟨rfl, rfl⟩
  · simp only [Value.slice.injEq, true_and] at he
    obtain ⟨rfl, rfl⟩ := he
    have hcell' : ∀ i, i < n → w.cell? (y.add (f + i)) = some (Value.int .u8 ((l[f + i]?.getD 0).toNat : Int)) := fun i hi => by
      have h9 : f + i < l.length := by omega
      rw [hcell _ h9]; simp [h9]
    have hget : ∀ i (h : i < ((l.drop f).take n).length), ((l.drop f).take n)[i] = l[f + i]?.getD 0 := fun i hi => by
      have h9 : f + i < l.length := by omega
      simp [h9]
    by_cases hcf : c = f
    · have hn0 : n = 0 := by omega
      rw [if_pos hcf]
      exact .inr ⟨y, c - f, by rw [hln], fun i hi => by omega⟩
    · rw [if_neg hcf, Option.map_some, Nat.mul_one]
      refine .inr ⟨y.add f, c - f, by rw [hln], fun i hi => ?_⟩
      rw [hget i hi, ← hcell' i (by omega)]
      by_cases hf0 : n = 0
      · omega
      · have hsp : (y.add f).spot = none := World.cell?_spot (by have := hcell' 0 (by omega); rw [Nat.add_zero] at this; exact this)
        have hsp0 : y.spot = none := by
          by_cases hf : f = 0
          · subst hf; simpa [Addr.add] using hsp
          · exact World.cell?_spot (a := y) (by have := hcell 0 (by omega); simpa [Addr.add] using this)
        obtain ⟨b, o, s⟩ := y
        simp only at hsp0; subst hsp0
        rw [addr_add, addr_add, addr_add, Nat.add_assoc]
theorem IsB.cut {w : World} {x : Option Addr} {c : Nat} {l : List UInt8} (h : IsB w (.slice x l.length c) l) (f n : Nat) (hn : f + n ≤ l.length) (hc : l.length ≤ c) :
    IsB w (.slice (if c = f then x else x.map (fun a => a.add f)) n (c - f)) ((l.drop f).take n) := by
  obtain ⟨y, d, e, -, -, h2⟩ := h.part f n hn hc
  unfold sliced at e
  rw [Nat.mul_one, show f + n - f = n by omega] at e
  rw [e]; exact h2
/-- A slice of ints. -/
def IsI (w : World) (v : Value) (zs : List Int) : Prop := ∃ x c, v = .slice x zs.length c ∧ ∀ i (_ : i < zs.length), ∃ b o, x = some ⟨b, o, none⟩ ∧ b < w.heap.size ∧ w.cell? ⟨b, o + i, none⟩ = some (.int .i64 (zs[i]?.getD 0))
theorem IsI.kept {w w1 : World} {v : Value} {zs : List Int} (h : IsI w v zs) (hb : Below w.heap.size w w1) : IsI w1 v zs := by
  obtain ⟨x, c, rfl, hc⟩ := h
  refine ⟨x, c, rfl, fun i hi => ?_⟩
  obtain ⟨b, o, rfl, h1, h2⟩ := hc i hi
  exact ⟨b, o, rfl, Nat.lt_of_lt_of_le h1 hb.size, by rw [hb.cell h1]; exact h2⟩
/-! append(v, b...) to a slice of the call's own -/
theorem below_by {w w' : World} {base : Nat} {v : Value} {l : List UInt8} (h : OwnB w base v l) (hg : w.grownBy w' v.ownBlock) (hb : base ≤ w.heap.size) : Below base w w' := below_grown h hg hb
theorem ownB_empty (w : World) : OwnB (w.alloc (.cells #[] 5)) w.heap.size (.slice (some ⟨w.heap.size, 0, none⟩) 0 0) [] :=
  ⟨by simp [bytesA], .inr ⟨w.heap.size, 0, #[], rfl, Nat.le_refl _, heap_alloc_last w _, Nat.le_refl _, by simp [maxLen], rfl, by simp [bytesA]⟩⟩
end Go.Proofs.Ytmbkkdojjfdliaa
