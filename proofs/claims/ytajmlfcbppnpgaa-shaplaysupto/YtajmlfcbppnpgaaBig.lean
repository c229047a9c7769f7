
import Derived.Test.YtajmlfcbppnpgaaShaT
import Derived.Deep.MidRow
namespace Go.Proofs.Ytajmlfcbppnpgaa
open Go.RowKit

/-! Rows of any length: live and not frozen; their cells are rowAt. -/
def rowL (w : World) (n : Nat) : Bool := match w.heap[n]? with | some (.cells _ _ fr) => fr == (0, 0) | _ => false
@[go_sem] theorem rowL_drew (w : World) (n : Nat) : rowL w.drew n = rowL w n := rfl
@[go_sem] theorem rowL_new (w : World) (n : Nat) (c : Array Value) (t : TypeId) (h : n = w.heap.size) : rowL (w.alloc (.cells c t)) n = true := by
  subst h; unfold rowL; rw [heap_alloc_last]; rfl
@[go_sem] theorem rowL_old (w : World) (n : Nat) (o : Obj) (h : n < w.heap.size) : rowL (w.alloc o) n = rowL w n := by
  unfold rowL; rw [Below.heap_alloc w o n h]
theorem row_of_L {w : World} {n : Nat} (h : rowL w n = true) : ∃ t, w.heap[n]? = some (.cells (rowAt w n) t (0, 0)) := by
  unfold rowL at h
  unfold rowAt
  cases hq : w.heap[n]? with
  | none => simp [hq] at h
  | some o =>
    cases o with
    | cells c t fr =>
      simp [hq] at h
      subst h
      exact ⟨t, rfl⟩
    | _ => simp [hq] at h
theorem rowL_lt {w : World} {n : Nat} (h : rowL w n = true) : n < w.heap.size := by
  obtain ⟨t, hg⟩ := row_of_L h
  exact (Array.getElem?_eq_some_iff.1 hg).1
@[go_sem] theorem rowAt_setRow_L (w : World) (n : Nat) (c : Array Value) (h : rowL w n = true) : rowAt (w.setRow n c) n = c := by
  obtain ⟨t, hg⟩ := row_of_L h
  unfold rowAt; rw [setRow_heap w n _ c t _ hg]
@[go_sem] theorem rowL_setRow_same (w : World) (n : Nat) (c : Array Value) (h : rowL w n = true) : rowL (w.setRow n c) n = true := by
  obtain ⟨t, hg⟩ := row_of_L h
  unfold rowL; rw [setRow_heap w n _ c t _ hg]; rfl
theorem rowL_setRow_other (w : World) (n m : Nat) (c : Array Value) (h : n ≠ m) : rowL (w.setRow m c) n = rowL w n := by
  unfold rowL; rw [setRow_other w m n c h]
theorem cell_rowL {w : World} {n : Nat} (h : rowL w n = true) (i : Nat) : w.cell? ⟨n, i, none⟩ = (rowAt w n)[i]? := by
  obtain ⟨t, hg⟩ := row_of_L h
  exact cell_of_row w n i _ t _ hg
theorem frozen_rowL {w : World} {n : Nat} (h : rowL w n = true) (i : Nat) : w.frozen? ⟨n, i, none⟩ = false := by
  obtain ⟨t, hg⟩ := row_of_L h
  simp [World.frozen?, hg]
/-- A row with these cells. -/
def RowC (w : World) (g : Nat) (c : Array Value) : Prop := rowL w g = true ∧ rowAt w g = c
theorem RowC.block {w w1 : World} {g : Nat} {c : Array Value} (h : RowC w g c) (hb : w1.heap[g]? = w.heap[g]?) : RowC w1 g c := by
  unfold RowC rowL rowAt at *
  rw [hb]; exact h
theorem RowC.kept {w w1 : World} {g : Nat} {c : Array Value} (h : RowC w g c) (hb : Below w.heap.size w w1) : RowC w1 g c := h.block (hb.block g (rowL_lt h.1))
theorem RowC.new (w : World) (c : Array Value) (t : TypeId) : RowC (w.alloc (.cells c t)) w.heap.size c := ⟨rowL_new _ _ _ _ rfl, rowAt_new _ _ _ _ rfl⟩
theorem RowC.lt {w : World} {g : Nat} {c : Array Value} (h : RowC w g c) : g < w.heap.size := rowL_lt h.1
theorem RowC.cell {w : World} {g : Nat} {c : Array Value} (h : RowC w g c) (i : Nat) : w.cell? ⟨g, i, none⟩ = c[i]? := by rw [cell_rowL h.1, h.2]
theorem RowC.frozen {w : World} {g : Nat} {c : Array Value} (h : RowC w g c) (i : Nat) : w.frozen? ⟨g, i, none⟩ = false := frozen_rowL h.1 i
theorem RowC.set {w : World} {g : Nat} {c : Array Value} (h : RowC w g c) (i : Nat) (v : Value) : RowC (w.setCell ⟨g, i, none⟩ v) g (c.setIfInBounds i v) := by
  obtain ⟨t, hg⟩ := row_of_L h.1
  have e := heap_setCell w g i v _ t _ hg
  constructor
  · unfold rowL; rw [e]; rfl
  · have e2 : rowAt (w.setCell ⟨g, i, none⟩ v) g = (rowAt w g).setIfInBounds i v := by
      show (match (w.setCell ⟨g, i, none⟩ v).heap[g]? with | some (.cells c _ _) => c | _ => #[]) = _
      rw [e]
    rw [e2, h.2]
theorem heap_setCell_ne (w : World) (g k i : Nat) (v : Value) (h : g ≠ k) : (w.setCell ⟨g, i, none⟩ v).heap[k]? = w.heap[k]? := by
  simp only [World.setCell, Array.getElem?_modify]; rw [if_neg h]
theorem RowC.set_ne {w : World} {g k : Nat} {c : Array Value} (h : RowC w k c) (i : Nat) (v : Value) (hn : g ≠ k) : RowC (w.setCell ⟨g, i, none⟩ v) k c := h.block (heap_setCell_ne w g k i v hn)
theorem RowC.setRow {w : World} {g : Nat} {c : Array Value} (h : RowC w g c) (d : Array Value) : RowC (w.setRow g d) g d := ⟨rowL_setRow_same _ _ _ h.1, rowAt_setRow_L _ _ _ h.1⟩
theorem RowC.setRow_ne {w : World} {g k : Nat} {c : Array Value} (h : RowC w k c) (d : Array Value) (hn : k ≠ g) : RowC (w.setRow g d) k c := h.block (setRow_other w g k d hn)

/-! The cells: words, bytes, a Hash -/
def wdA (l : List Wd) : Array Value := (wsV l).toArray
def zW8 : List Wd := List.replicate 8 0#32
def zW64 : List Wd := List.replicate 64 0#32
@[go_sem] theorem zW8_len : zW8.length = 8 := by unfold zW8; simp
@[go_sem] theorem zW64_len : zW64.length = 64 := by unfold zW64; simp
def hsA (s : S8) (b : Nat → UInt8) (n : Nat) : Array Value := (wsV s.toL ++ (secA b).toList ++ [Value.int .i64 (n : Int)]).toArray
@[go_sem] theorem wdA_size (l : List Wd) : (wdA l).size = l.length := by simp [wdA, wsV]
@[go_sem] theorem toL_length (s : S8) : s.toL.length = 8 := by unfold S8.toL; simp
@[go_sem] theorem hsA_size (s : S8) (b : Nat → UInt8) (n : Nat) : (hsA s b n).size = 73 := by simp [hsA, wsV, toL_length]
theorem wdA_get (l : List Wd) (i : Nat) (h : i < l.length) : (wdA l)[i]? = some (.int .u32 ((wAt l i).toNat : Nat)) := by
  unfold wdA; rw [List.getElem?_toArray]; exact wsV_get l i h
theorem wdA_set (l : List Wd) (i : Nat) (x : Wd) : (wdA l).setIfInBounds i (.int .u32 ((x.toNat : Nat) : Int)) = wdA (l.set i x) := by
  unfold wdA; rw [wsV_set]; simp
theorem wdA_one (l : List Wd) : (wdA l).all (·.oneCell') = true := all_oneCell_toArray (wsV_one l)
theorem hsA_one (s : S8) (b : Nat → UInt8) (n : Nat) : (hsA s b n).all (·.oneCell') = true := by
  refine all_oneCell_toArray fun v hv => ?_
  simp only [List.mem_append, List.mem_singleton] at hv
  rcases hv with (hv | hv) | rfl
  · exact wsV_one _ v hv
  · exact Array.all_eq_true_iff_forall_mem.1 (secA_one b) v (by simpa using hv)
  · rfl
theorem hsA_word (s : S8) (b : Nat → UInt8) (n i : Nat) (h : i < 8) : (hsA s b n)[i]? = some (.int .u32 ((wAt s.toL i).toNat : Nat)) := by
  unfold hsA
  rw [List.getElem?_toArray, List.append_assoc, List.getElem?_append_left (by rw [wsV_length, toL_length]; exact h), wsV_get _ i (by rw [toL_length]; exact h)]
theorem hsA_byte (s : S8) (b : Nat → UInt8) (n i : Nat) (h : i < 64) : (hsA s b n)[8 + i]? = some (.int .u8 ((b i).toNat : Int)) := by
  unfold hsA
  rw [List.getElem?_toArray, List.append_assoc, List.getElem?_append_right (by rw [wsV_length, toL_length]; omega), wsV_length, toL_length, Nat.add_sub_cancel_left, List.getElem?_append_left (by simpa using h), Array.getElem?_toList, secA_get b i h]
theorem hsA_len (s : S8) (b : Nat → UInt8) (n : Nat) : (hsA s b n)[72]? = some (.int .i64 (n : Int)) := by
  unfold hsA
  rw [List.getElem?_toArray, List.getElem?_append_right (by simp [wsV_length, toL_length])]
  simp [wsV_length, toL_length]
@[go_sem] theorem wdA_all (l : List Wd) (n : Nat) (h : l.length ≤ n) : (wdA l).extract 0 n = wdA l := by
  rw [Array.extract_eq_self_of_le (by rw [wdA_size]; exact h)]
@[go_sem] theorem secA_all (b : Nat → UInt8) : (secA b).extract 0 64 = secA b := by
  rw [Array.extract_eq_self_of_le (by simp)]
@[go_sem] theorem hsA_all (s : S8) (b : Nat → UInt8) (n : Nat) : (hsA s b n).extract 0 73 = hsA s b n := by
  rw [Array.extract_eq_self_of_le (by rw [hsA_size]; omega)]
theorem ext_fst (a b c : List Value) : (a ++ b ++ c).toArray.extract 0 a.length = a.toArray := by
  simp [List.append_assoc]
theorem ext_mid (a b c : List Value) : (a ++ b ++ c).toArray.extract a.length (a.length + b.length) = b.toArray := by
  simp [List.append_assoc]
theorem drop_fst (a b c : List Value) : (a ++ b ++ c).drop a.length = b ++ c := by simp [List.append_assoc]
theorem w8_len (s : S8) : (wsV s.toL).length = 8 := by rw [wsV_length, toL_length]
theorem sec_len (b : Nat → UInt8) : (secA b).toList.length = 64 := by rw [Array.length_toList, secA_size]
@[go_sem] theorem hsA_words (s : S8) (b : Nat → UInt8) (n : Nat) : (hsA s b n).extract 0 8 = wdA s.toL := by
  have h := ext_fst (wsV s.toL) (secA b).toList [Value.int .i64 (n : Int)]
  rw [w8_len] at h
  exact h
@[go_sem] theorem hsA_bytes (s : S8) (b : Nat → UInt8) (n : Nat) : (hsA s b n).extract 8 72 = secA b := by
  have h := ext_mid (wsV s.toL) (secA b).toList [Value.int .i64 (n : Int)]
  rw [w8_len, sec_len, Array.toArray_toList] at h
  unfold hsA
  rw [show (72 : Nat) = 8 + 64 from rfl, h]
/-- Cells laid into a row. -/
def layC (c : Array Value) (o : Nat) (vs : Array Value) : Array Value := (c.toList.take o ++ vs.toList ++ c.toList.drop (o + vs.size)).toArray
theorem layC_all (c vs : Array Value) (h : vs.size = c.size) : layC c 0 vs = vs := by
  unfold layC
  rw [List.drop_of_length_le (by simp [h])]; simp
@[go_sem] theorem layC_wd (l m : List Wd) (h : m.length = l.length) : layC (wdA l) 0 (wdA m) = wdA m := layC_all _ _ (by rw [wdA_size, wdA_size, h])
@[go_sem] theorem layC_hs (s t : S8) (b d : Nat → UInt8) (n m : Nat) : layC (hsA s b n) 0 (hsA t d m) = hsA t d m := layC_all _ _ (by rw [hsA_size, hsA_size])
theorem layC_fst (a d b c : List Value) (h : d.length = a.length) : layC (a ++ b ++ c).toArray 0 d.toArray = (d ++ b ++ c).toArray := by
  unfold layC
  simp [List.append_assoc, h]
@[go_sem] theorem layC_words (s t : S8) (b : Nat → UInt8) (n : Nat) : layC (hsA s b n) 0 (wdA t.toL) = hsA t b n :=
  layC_fst _ _ _ _ (by rw [w8_len, w8_len])
theorem hsA_setLen (s : S8) (b : Nat → UInt8) (n m : Nat) : (hsA s b n).setIfInBounds 72 (.int .i64 (m : Int)) = hsA s b m := by
  unfold hsA
  rw [List.setIfInBounds_toArray, List.set_append_right _ _ (by simp [wsV_length, toL_length])]
  simp [wsV_length, toL_length]

/-! The operations on them -/
def bigLoad (t : TypeId) (p : Value) : Sem Next := do pure (.value (← Instr.loadAt t p))
def bigStore (t : TypeId) (p x : Value) : Sem Next := do Instr.storeAt t p x; pure .skip
def bigAlloc (t : TypeId) : Sem Next := do pure (.value (← Instr.alloc t true (.tuple #[])))
def bigBox (t : TypeId) (x : Value) : Sem Next := do pure (.value (← Instr.box t x))
theorem run_bigLoad (t : TypeId) (d : TypeDesc) (n : Nat) (hu : Try.prog.underlying t = some d) (hd : d.isRow = true) (hi : (Try.prog.info? t).map (·.size) = some n) (w : World) (g o : Nat) (h : rowL w g = true) (hs : o + n ≤ (rowAt w g).size) :
    (bigLoad t (.pointer (some ⟨g, o, none⟩))).run Try.prog w = .ok (.value (.agg ((rowAt w g).extract o (o + n)))) w := by
  obtain ⟨ty, hg⟩ := row_of_L h
  have hr := World.rangeAt_of_block hg o n
  simp only [bigLoad, Sem.run_bind]
  rw [run_loadAt_mid w g o t _ d hr hu hd (by rw [hi]; simp; omega), Array.toArray_toList]
  rfl
theorem run_bigStore (t : TypeId) (n : Nat) (hi : (Try.prog.info? t).map (·.size) = some n) (w : World) (g o : Nat) (vs : Array Value) (h : rowL w g = true) (hn : vs.size = n) (hs : o + n ≤ (rowAt w g).size) (h1 : vs.all (·.oneCell') = true) :
    (bigStore t (.pointer (some ⟨g, o, none⟩)) (.agg vs)).run Try.prog w = .ok .skip (w.setRow g (layC (rowAt w g) o vs)) := by
  obtain ⟨ty, hg⟩ := row_of_L h
  have hst := run_storeCells_at Try.prog g o ty vs.toList 0 (rowAt w g) w hg (by simp; omega) (fun v hv => Array.all_eq_true_iff_forall_mem.1 h1 v (by simpa using hv))
  cases hq : Try.prog.info? t with
  | none => simp [hq] at hi
  | some i =>
    simp [hq] at hi
    simp only [Nat.add_zero, Array.length_toList] at hst
    simp [bigStore, Instr.storeAt, Instr.sureAddr, storeVar, sizeOf, typeInfo, hq, hi, Value.cells, hn, hst, layC]
theorem run_bigBox (t : TypeId) (c : Array Value) (w : World) : (bigBox t (.agg c)).run Try.prog w = .ok (.value (.pointer (some ⟨w.heap.size, 0, none⟩))) (w.alloc (.cells c t)) := by
  simp only [bigBox, Instr.box, newVar, Value.cells, Sem.run_bind]
  rfl
section
variable (ρ : Operand → Value) (dst : Option Tmp) (ty : TypeId) (pos : String) (after : Array Edge) (guard : Option (Nat × Bool))
@[go_sem ↓] theorem execOp_load_w8 (x : Operand) : execOp ρ { dst, op := .load 44 x, type := ty, pos, after, guard } = bigLoad 44 (ρ x) := rfl
@[go_sem ↓] theorem execOp_store_w8 (x y : Operand) : execOp ρ { dst, op := .store 44 x y, type := ty, pos, after, guard } = bigStore 44 (ρ x) (ρ y) := rfl
@[go_sem ↓] theorem execOp_alloc_w8 : execOp ρ { dst, op := .alloc 44, type := ty, pos, after, guard } = bigAlloc 44 := rfl
@[go_sem ↓] theorem execOp_box_w8 (x : Operand) : execOp ρ { dst, op := .box 44 x, type := ty, pos, after, guard } = bigBox 44 (ρ x) := rfl
@[go_sem ↓] theorem execOp_load_w64 (x : Operand) : execOp ρ { dst, op := .load 55 x, type := ty, pos, after, guard } = bigLoad 55 (ρ x) := rfl
@[go_sem ↓] theorem execOp_store_w64 (x y : Operand) : execOp ρ { dst, op := .store 55 x y, type := ty, pos, after, guard } = bigStore 55 (ρ x) (ρ y) := rfl
@[go_sem ↓] theorem execOp_alloc_w64 : execOp ρ { dst, op := .alloc 55, type := ty, pos, after, guard } = bigAlloc 55 := rfl
@[go_sem ↓] theorem execOp_box_w64 (x : Operand) : execOp ρ { dst, op := .box 55 x, type := ty, pos, after, guard } = bigBox 55 (ρ x) := rfl
@[go_sem ↓] theorem execOp_load_b64 (x : Operand) : execOp ρ { dst, op := .load 46 x, type := ty, pos, after, guard } = bigLoad 46 (ρ x) := rfl
@[go_sem ↓] theorem execOp_store_b64 (x y : Operand) : execOp ρ { dst, op := .store 46 x y, type := ty, pos, after, guard } = bigStore 46 (ρ x) (ρ y) := rfl
@[go_sem ↓] theorem execOp_alloc_b64 : execOp ρ { dst, op := .alloc 46, type := ty, pos, after, guard } = bigAlloc 46 := rfl
@[go_sem ↓] theorem execOp_box_b64 (x : Operand) : execOp ρ { dst, op := .box 46 x, type := ty, pos, after, guard } = bigBox 46 (ρ x) := rfl
@[go_sem ↓] theorem execOp_load_hs (x : Operand) : execOp ρ { dst, op := .load 48 x, type := ty, pos, after, guard } = bigLoad 48 (ρ x) := rfl
@[go_sem ↓] theorem execOp_store_hs (x y : Operand) : execOp ρ { dst, op := .store 48 x y, type := ty, pos, after, guard } = bigStore 48 (ρ x) (ρ y) := rfl
@[go_sem ↓] theorem execOp_alloc_hs : execOp ρ { dst, op := .alloc 48, type := ty, pos, after, guard } = bigAlloc 48 := rfl
@[go_sem ↓] theorem execOp_box_hs (x : Operand) : execOp ρ { dst, op := .box 48 x, type := ty, pos, after, guard } = bigBox 48 (ρ x) := rfl
end
theorem info_w8 : (Try.prog.info? 44).map (fun i => (i.zero, i.size)) = some (some (.agg (wdA zW8)), 8) := by kernel_rfl
theorem sizeT_w8 : (Try.prog.info? 44).map (·.size) = some 8 := (zero_of_info info_w8).2
@[go_sem] theorem run_load_w8 (w : World) (g o : Nat) (h : rowL w g = true) (hs : o + 8 ≤ (rowAt w g).size) : (bigLoad 44 (.pointer (some ⟨g, o, none⟩))).run Try.prog w = .ok (.value (.agg ((rowAt w g).extract o (o + 8)))) w :=
  run_bigLoad 44 _ 8 Try.underlying44 rfl sizeT_w8 w g o h hs
@[go_sem] theorem run_alloc_w8 (w : World) : (bigAlloc 44).run Try.prog w = .ok (.value (.pointer (some ⟨w.heap.size, 0, none⟩))) (w.alloc (.cells (wdA zW8) 44)) := by
  simp only [bigAlloc, Instr.alloc, Sem.run_bind, (zero_of_info info_w8).1 w, Result.andThen_ok]
  rfl
@[go_sem] theorem run_box_w8 (w : World) (c : Array Value) : (bigBox 44 (.agg c)).run Try.prog w = .ok (.value (.pointer (some ⟨w.heap.size, 0, none⟩))) (w.alloc (.cells c 44)) := run_bigBox _ c w
theorem info_w64 : (Try.prog.info? 55).map (fun i => (i.zero, i.size)) = some (some (.agg (wdA zW64)), 64) := by kernel_rfl
theorem sizeT_w64 : (Try.prog.info? 55).map (·.size) = some 64 := (zero_of_info info_w64).2
@[go_sem] theorem run_load_w64 (w : World) (g o : Nat) (h : rowL w g = true) (hs : o + 64 ≤ (rowAt w g).size) : (bigLoad 55 (.pointer (some ⟨g, o, none⟩))).run Try.prog w = .ok (.value (.agg ((rowAt w g).extract o (o + 64)))) w :=
  run_bigLoad 55 _ 64 Try.underlying55 rfl sizeT_w64 w g o h hs
@[go_sem] theorem run_alloc_w64 (w : World) : (bigAlloc 55).run Try.prog w = .ok (.value (.pointer (some ⟨w.heap.size, 0, none⟩))) (w.alloc (.cells (wdA zW64) 55)) := by
  simp only [bigAlloc, Instr.alloc, Sem.run_bind, (zero_of_info info_w64).1 w, Result.andThen_ok]
  rfl
@[go_sem] theorem run_box_w64 (w : World) (c : Array Value) : (bigBox 55 (.agg c)).run Try.prog w = .ok (.value (.pointer (some ⟨w.heap.size, 0, none⟩))) (w.alloc (.cells c 55)) := run_bigBox _ c w
theorem info_b64 : (Try.prog.info? 46).map (fun i => (i.zero, i.size)) = some (some (.agg (secA secZ)), 64) := by kernel_rfl
theorem sizeT_b64 : (Try.prog.info? 46).map (·.size) = some 64 := (zero_of_info info_b64).2
@[go_sem] theorem run_load_b64 (w : World) (g o : Nat) (h : rowL w g = true) (hs : o + 64 ≤ (rowAt w g).size) : (bigLoad 46 (.pointer (some ⟨g, o, none⟩))).run Try.prog w = .ok (.value (.agg ((rowAt w g).extract o (o + 64)))) w :=
  run_bigLoad 46 _ 64 Try.underlying46 rfl sizeT_b64 w g o h hs
@[go_sem] theorem run_alloc_b64 (w : World) : (bigAlloc 46).run Try.prog w = .ok (.value (.pointer (some ⟨w.heap.size, 0, none⟩))) (w.alloc (.cells (secA secZ) 46)) := by
  simp only [bigAlloc, Instr.alloc, Sem.run_bind, (zero_of_info info_b64).1 w, Result.andThen_ok]
  rfl
@[go_sem] theorem run_box_b64 (w : World) (c : Array Value) : (bigBox 46 (.agg c)).run Try.prog w = .ok (.value (.pointer (some ⟨w.heap.size, 0, none⟩))) (w.alloc (.cells c 46)) := run_bigBox _ c w
theorem info_hs : (Try.prog.info? 48).map (fun i => (i.zero, i.size)) = some (some (.agg (hsA ⟨0, 0, 0, 0, 0, 0, 0, 0⟩ secZ 0)), 73) := by kernel_rfl
theorem sizeT_hs : (Try.prog.info? 48).map (·.size) = some 73 := (zero_of_info info_hs).2
@[go_sem] theorem run_load_hs (w : World) (g o : Nat) (h : rowL w g = true) (hs : o + 73 ≤ (rowAt w g).size) : (bigLoad 48 (.pointer (some ⟨g, o, none⟩))).run Try.prog w = .ok (.value (.agg ((rowAt w g).extract o (o + 73)))) w :=
  run_bigLoad 48 _ 73 Try.underlying48 rfl sizeT_hs w g o h hs
@[go_sem] theorem run_alloc_hs (w : World) : (bigAlloc 48).run Try.prog w = .ok (.value (.pointer (some ⟨w.heap.size, 0, none⟩))) (w.alloc (.cells (hsA ⟨0, 0, 0, 0, 0, 0, 0, 0⟩ secZ 0) 48)) := by
  simp only [bigAlloc, Instr.alloc, Sem.run_bind, (zero_of_info info_hs).1 w, Result.andThen_ok]
  rfl
@[go_sem] theorem run_box_hs (w : World) (c : Array Value) : (bigBox 48 (.agg c)).run Try.prog w = .ok (.value (.pointer (some ⟨w.heap.size, 0, none⟩))) (w.alloc (.cells c 48)) := run_bigBox _ c w
@[go_sem] theorem run_store_w8 (w : World) (g o : Nat) (l : List Wd) (h : rowL w g = true) (hn : l.length = 8) (hs : o + 8 ≤ (rowAt w g).size) : (bigStore 44 (.pointer (some ⟨g, o, none⟩)) (.agg (wdA l))).run Try.prog w = .ok .skip (w.setRow g (layC (rowAt w g) o (wdA l))) :=
  run_bigStore 44 8 sizeT_w8 w g o _ h (by rw [wdA_size]; exact hn) hs (wdA_one l)
@[go_sem] theorem run_store_w64 (w : World) (g o : Nat) (l : List Wd) (h : rowL w g = true) (hn : l.length = 64) (hs : o + 64 ≤ (rowAt w g).size) : (bigStore 55 (.pointer (some ⟨g, o, none⟩)) (.agg (wdA l))).run Try.prog w = .ok .skip (w.setRow g (layC (rowAt w g) o (wdA l))) :=
  run_bigStore 55 64 sizeT_w64 w g o _ h (by rw [wdA_size]; exact hn) hs (wdA_one l)
@[go_sem] theorem run_store_hs (w : World) (g o : Nat) (s : S8) (b : Nat → UInt8) (n : Nat) (h : rowL w g = true) (hs : o + 73 ≤ (rowAt w g).size) : (bigStore 48 (.pointer (some ⟨g, o, none⟩)) (.agg (hsA s b n))).run Try.prog w = .ok .skip (w.setRow g (layC (rowAt w g) o (hsA s b n))) :=
  run_bigStore 48 73 sizeT_hs w g o _ h (hsA_size s b n) hs (hsA_one s b n)
theorem results_bigRow {fn : Func} {p : Nat} (t : TypeId) (d : TypeDesc) (n : Nat) (hu : Try.prog.underlying t = some d) (hd : d.isRow = true) (hi : (Try.prog.info? t).map (·.size) = some n) (hres : fn.results = #[.cell p t]) {R : Ending → World → Prop} {a : Act} {w : World} (g : Nat) (hp : a.tmps.getD p undef = .pointer (some ⟨g, 0, none⟩)) (hdf : a.defers = [])
    (c : Array Value) (hok : RowC w g c) (hc : c.size = n) (h : R (.returned (.agg c)) w) : bodyPost Try.prog fn R .ret a w := by
  obtain ⟨h1, h2⟩ := hok
  obtain ⟨ty, hg⟩ := row_of_L h1
  rw [h2] at hg
  refine bodyPost_ret (results_cell_row hres a.tmps w g ty c (0, 0) d hp hg hu ?_ (by rw [hi, hc])) hdf h
  cases d <;> first | rfl | cases hd
end Go.Proofs.Ytajmlfcbppnpgaa
