
import Derived.Test.YtnkchcnamcageaaNam2
import Derived.Test.YtnkchcnamcageaaKel
namespace Go.Proofs.Ytnkchcnamcageaa
open Go.RowKit

/-! assayref13: Put, Get -/
theorem OwnB.new13 (w : World) (l : List UInt8) (n : Nat) (hn : l.length = n) (hl : n ≤ maxLen) : OwnB (w.alloc (.cells (bytesA l) 5)) w.heap.size (.slice (some ⟨w.heap.size, 0, none⟩) n n) l := by
  subst hn
  refine ⟨by simp [bytesA], .inr ⟨w.heap.size, l.length, bytesA l, rfl, Nat.le_refl _, heap_alloc_last w _, Nat.le_refl _, hl, by simp, ?_⟩⟩
  rw [Nat.mul_one, List.take_of_length_le (by simp)]
theorem OwnB.cell13 {w : World} {base g n c : Nat} {l : List UInt8} (h : OwnB w base (.slice (some ⟨g, 0, none⟩) n c) l) (i : Nat) (hi : i < l.length) : w.cell? ⟨g, i, none⟩ = some (Value.int .u8 ((lB l i).toNat : Int)) := by
  obtain ⟨b, o, he, hb, hc⟩ : ∃ b o, (⟨g, 0, none⟩ : Addr) = ⟨b, o, none⟩ ∧ b < w.heap.size ∧ ∀ j (_ : j < l.length), w.cell? ⟨b, o + j, none⟩ = some (Value.int .u8 (l[j].toNat : Int)) := by
    rcases h.isB with ⟨h, _⟩ | ⟨y, d, he, hc⟩
    · cases h
    · simp only [Value.slice.injEq, Option.some.injEq] at he
      obtain ⟨rfl, -, -⟩ := he
      exact ⟨g, 0, rfl, by have := World.block_lt_of_cell? w _ (hc i hi); rw [addr_add] at this; exact this, fun j hj => by have := hc j hj; rw [addr_add] at this; exact this⟩
  cases he
  have := hc i hi
  rw [Nat.zero_add] at this
  rw [this]
  unfold lB
  rw [List.getElem?_eq_getElem hi]; rfl
theorem OwnB.soft13 {w : World} {base : Nat} {l : List UInt8} {g n c : Nat} (h : OwnB w base (.slice (some ⟨g, 0, none⟩) n c) l) (j : Nat) : w.frozen? ⟨g, j, none⟩ = false := by
  obtain ⟨_, ⟨h, _⟩ | ⟨g', cap, cur, he, hb, hg, -⟩⟩ := h
  · cases h
  · simp only [Value.slice.injEq, Option.some.injEq, Addr.mk.injEq] at he
    obtain ⟨⟨rfl, -⟩, -⟩ := he
    simp [World.frozen?, hg]
theorem OwnB.set13 {w : World} {base g c n : Nat} {l : List UInt8} (h : OwnB w base (.slice (some ⟨g, 0, none⟩) n c) l) (hn : l.length = n) (j : Nat) (b : UInt8) : OwnB (w.setCell ⟨g, j, none⟩ (.int .u8 (b.toNat : Int))) base (.slice (some ⟨g, 0, none⟩) n c) (l.set j b) := by
  subst hn
  have := (World.ownsRow.stored h j (.int .u8 (b.toNat : Int))).1
  unfold OwnB
  rw [List.length_set, show (bytesA (l.set j b)).toList = (bytesA l).toList.set j (.int .u8 (b.toNat : Int)) by simp [bytesA, List.map_set]]
  exact this
def putL (l : List UInt8) (k : Nat) : List UInt8 := l.take k ++ List.replicate (24 - k) 0
theorem putL_len (l : List UInt8) (k : Nat) (hk : k ≤ l.length) (hl : l.length ≤ 24) : (putL l k).length = 24 := by
  unfold putL; rw [List.length_append, List.length_take, List.length_replicate]; omega
theorem putL_step (l : List UInt8) (k : Nat) (hk : k < l.length) (hl : l.length ≤ 24) : (putL l k).set k (lB l k) = putL l (k + 1) := by
  apply List.ext_getElem?
  intro j
  have h1 := putL_len l k (by omega) hl
  have hd : ∀ t, t ≤ l.length → (l.take t).length = t := fun t ht => by rw [List.length_take]; omega
  by_cases hj : j = k
  · subst hj
    rw [List.getElem?_set_self (by omega)]
    unfold putL lB
    rw [List.getElem?_append_left (by rw [hd _ (by omega)]; omega), List.getElem?_take_of_lt (by omega), List.getElem?_eq_getElem hk]
    rfl
  · rw [List.getElem?_set_ne (fun e => hj e.symm)]
    unfold putL
    by_cases hlt : j < k
    · rw [List.getElem?_append_left (by rw [hd _ (by omega)]; omega), List.getElem?_append_left (by rw [hd _ (by omega)]; omega), List.getElem?_take_of_lt (by omega), List.getElem?_take_of_lt (by omega)]
    · rw [List.getElem?_append_right (by rw [hd _ (by omega)]; omega), List.getElem?_append_right (by rw [hd _ (by omega)]; omega), hd _ (by omega), hd _ (by omega)]
      by_cases h9 : j < 24
      · rw [List.getElem?_replicate_of_lt (by omega), List.getElem?_replicate_of_lt (by omega)]
      · rw [List.getElem?_eq_none (by simp; omega), List.getElem?_eq_none (by simp; omega)]
theorem putL_end (l : List UInt8) : putL l l.length = padN l := by unfold putL padN; rw [List.take_length]
/-- What Put leaves: the bytes, in memory of its own; or none. -/
def PutPost (l : List UInt8) (w : World) (e : Ending) (w' : World) : Prop := ((isN l = true ∧ ∃ g c, e = .returned (.tuple #[.slice (some ⟨g, 0, none⟩) 24 c, .int .i64 0]) ∧ OwnB w' w.heap.size (.slice (some ⟨g, 0, none⟩) 24 c) (padN l)) ∨ (isN l = false ∧ ∃ x c, e = .returned (.tuple #[.slice x 0 c, .int .i64 36]) ∧ IsB w' (.slice x 0 c) [])) ∧ Below w.heap.size w w'
set_option linter.unusedSimpArgs false in
set_option maxRecDepth 100000 in
set_option maxHeartbeats 2000000 in
theorem refPut_any (s : ByteArray) (w : World) (h63 : s.size ≤ 9223372036854775807) : Calls Try.prog 15 #[.string s] w fun e w' => PutPost (lS s) w e w' := by
  have hI := refIs_any s w h63
  have hls := lS_len s
  obtain ⟨l, hl⟩ : ∃ q, lS s = q := ⟨_, rfl⟩
  rw [hl] at hI hls ⊢
  obtain ⟨n, hn⟩ : ∃ q, s.size = q := ⟨_, rfl⟩
  rw [hn] at hls h63
  have hlen := @isN_len l
  obtain ⟨R, hR⟩ : ∃ q, isN l = q := ⟨_, rfl⟩
  rw [hR] at hI hlen
  have HR : Hid (isN l = R) := hR
  clear hR
  go_enter Try.func15, Try.ntmps15
  go_wp2_with fail
  refine hI.mono ?_
  rintro e w1 ⟨rfl, hB⟩
  clear hI
  cases R
  · clear hlen
    go_wp2
    go_ret2
    exact ⟨.inr ⟨HR.out, none, 0, rfl, .inl ⟨rfl, rfl⟩⟩, hB⟩
  · have hl24 := hlen rfl
    rw [hls] at hl24
    clear hlen
    have hmk : (Instr.makeSlice 28 (.int .i64 24) (.int .i64 24)).run Try.prog w1 = .ok (.slice (some ⟨w1.heap.size, 0, none⟩) 24 24) (w1.alloc (.cells (bytesA (List.replicate 24 0)) 5)) := run_mk w1 24 (by omega)
    have hO := OwnB.new13 w1 (List.replicate 24 0) 24 (by simp) (by unfold maxLen; omega)
    have b0 := below_alloc w1 (.cells (bytesA (List.replicate 24 0)) 5)
    generalize bytesA (List.replicate 24 0) = Z at hmk hO b0
    have hO0 : OwnB (w1.alloc (.cells Z 5)) w.heap.size (.slice (some ⟨w1.heap.size, 0, none⟩) 24 24) (putL l 0) := ⟨hO.1, hO.2.elim .inl fun ⟨g, cap, cur, hv, hg, r⟩ => .inr ⟨g, cap, cur, hv, Nat.le_trans hB.size hg, r⟩⟩
    have hB0 : Below w.heap.size w (w1.alloc (.cells Z 5)) := hB.trans (b0.mono hB.size)
    have hgB : w.heap.size ≤ w1.heap.size := hB.size
    obtain ⟨g, hg⟩ : ∃ q, w1.heap.size = q := ⟨_, rfl⟩
    rw [hg] at hO0 hmk hgB
    clear hO b0
    go_upto_region 4 with fail
    generalize w1.alloc (.cells Z 5) = X at hO0 hB0 ⊢
    clear hmk
    go_wp2_with fail
    go_loopw [5] (fun iv wr => ∃ k : Nat, k ≤ n ∧ iv = .int .i64 k ∧ OwnB wr w.heap.size (.slice (some ⟨g, 0, none⟩) 24 24) (putL l k) ∧ Below w.heap.size w wr) (fun iv _ => n - (intOf iv).toNat)
    case atStart => exact ⟨0, by omega, rfl, hO0, hB0⟩
    case round =>
      clear hO0 hB0
      obtain ⟨k, hk, rfl, hO1, hB1⟩ := hrel
      by_cases hlt : k < n
      · have i0 : (0 : Int) ≤ (k : Int) := by omega
        have i1 : (k : Int) < (n : Int) := by omega
        have i2 : (k : Int) < 24 := by omega
        have hpl := putL_len l k (by omega) (by omega)
        obtain ⟨b, hb⟩ : ∃ z, lB l k = z := ⟨_, rfl⟩
        have cc := hO1.cell13 k (by omega)
        have cf := hO1.soft13 k
        have hst := putL_step l k (by omega) (by omega)
        rw [hb] at hst
        have hO2 := hO1.set13 hpl k b
        rw [hst] at hO2
        have HO2 : Hid _ := hO2
        have HB2 : Hid _ := hB1.setCell (p := ⟨g, k, none⟩) hgB (.int .u8 (b.toNat : Int))
        generalize lB (putL l k) k = b9 at cc
        clear hst hO2 hO1 hpl
        go_wp2
        go_roundw
        case rel => exact ⟨k + 1, by omega, by go_num, HO2.out, HB2.out⟩
        case measure => simp [intOf]; omega
      · obtain rfl : k = n := by omega
        have hlt' : ¬ (k : Int) < (k : Int) := by omega
        have HP : Hid (PutPost l w (.returned (.tuple #[.slice (some ⟨g, 0, none⟩) 24 24, .int .i64 0])) wr) := by
          have e : putL l k = padN l := by rw [← hls]; exact putL_end l
          rw [e] at hO1
          exact ⟨.inl ⟨HR.out, g, 24, rfl, hO1⟩, hB1⟩
        clear hO1 hB1
        go_wp2
        go_ret2
        exact HP.out
end Go.Proofs.Ytnkchcnamcageaa
