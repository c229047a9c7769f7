
import Derived.Test.YtfnffkommcepoaaBit4
namespace Go.Proofs.Ytfnffkommcepoaa
open Go.RowKit

/-! make([]bool, n), make([]api.Sector, n) -/
def rowF (n : Nat) : Array Value := (bV (List.replicate n false)).toArray
def rowZ (n : Nat) : Array Value := (flK secE (List.replicate n secZ)).toArray
def mkB (x y : Value) : Sem Next := do pure (.value (← Instr.makeSlice 22 x y))
def mkS (x y : Value) : Sem Next := do pure (.value (← Instr.makeSlice 24 x y))
section
variable (ρ : Operand → Value) (dst : Option Tmp) (ty : TypeId) (pos : String) (after : Array Edge) (guard : Option (Nat × Bool))
@[go_sem ↓] theorem execOp_mkB (x y : Operand) : execOp ρ { dst, op := .makeSlice 22 x y, type := ty, pos, after, guard } = mkB (ρ x) (ρ y) := rfl
@[go_sem ↓] theorem execOp_mkS (x y : Operand) : execOp ρ { dst, op := .makeSlice 24 x y, type := ty, pos, after, guard } = mkS (ρ x) (ρ y) := rfl
end
theorem info_bool : (Try.prog.info? 4).map (fun i => (i.zero, i.size, i.bytes)) = some (some (.bool false), 1, 1) := by kernel_rfl
theorem made_bools (n : Nat) : madeCells #[Value.bool false] n = rowF n := by
  apply Array.ext_getElem?
  intro i
  unfold rowF bV
  by_cases hi : i < n
  · simp [madeCells, hi, Nat.mod_one]
  · rw [Array.getElem?_eq_none (by rw [size_madeCells]; omega), Array.getElem?_eq_none (by simp; omega)]
theorem made_secs (n : Nat) : madeCells (secA secZ) (n * 64) = rowZ n := by
  apply Array.ext_getElem?
  intro i
  unfold rowZ
  by_cases hi : i < n * 64
  · have h1 : (List.replicate n secZ)[i / 64]? = some secZ := by rw [List.getElem?_replicate, if_pos (by omega)]
    have h2 := flK_at secE_ok (List.replicate n secZ) i secZ h1
    rw [show ((flK secE (List.replicate n secZ)).toArray)[i]? = (flK secE (List.replicate n secZ))[i]? from by simp, h2, secE_k, secE_enc, Array.getElem?_toList]
    rw [Array.getElem?_eq_getElem (by rw [size_madeCells]; exact hi), Array.getElem?_eq_getElem (by simp; omega)]
    simp [madeCells, secA_size]
    have hq := secA_get secZ (i % 64) (by omega)
    rw [getElem!_def, hq]
  · have hlen : (flK secE (List.replicate n secZ)).length = n * 64 := by rw [flK_len secE_ok]; simp [secE]
    rw [Array.getElem?_eq_none (by rw [size_madeCells]; omega), Array.getElem?_eq_none (by rw [List.size_toArray, hlen]; omega)]
@[go_sem] theorem run_mkB (w : World) (n : Int) (h0 : 0 ≤ n) (h : n ≤ 281474976710656) : (mkB (.int .i64 n) (.int .i64 n)).run Try.prog w =
    .ok (.value (.slice (some ⟨w.heap.size, 0, none⟩) n.toNat n.toNat)) (w.alloc (.cells (rowF n.toNat) 4)) := by
  obtain ⟨i, hi, hzz⟩ := Option.map_eq_some_iff.1 info_bool
  simp only [Prod.mk.injEq] at hzz
  simp only [mkB, Sem.run_bind]
  rw [run_make (P := Try.prog) w 22 4 i _ Try.underlying22 hi hzz.1 .i64 .i64 n n h0 (Int.le_refl _) (by rw [hzz.2.2]; omega) (by omega)]
  rw [hzz.2.1, Nat.mul_one, show (Value.bool false).cells = #[Value.bool false] from rfl, made_bools]
  rfl
@[go_sem] theorem run_mkS (w : World) (n : Int) (h0 : 0 ≤ n) (h : n ≤ 1000) : (mkS (.int .i64 n) (.int .i64 n)).run Try.prog w =
    .ok (.value (.slice (some ⟨w.heap.size, 0, none⟩) n.toNat n.toNat)) (w.alloc (.cells (rowZ n.toNat) 29)) := by
  obtain ⟨i, hi, hzz⟩ := Option.map_eq_some_iff.1 secE_ok.info
  simp only [Prod.mk.injEq] at hzz
  simp only [mkS, Sem.run_bind]
  have hi' : Try.prog.info? 29 = some i := hi
  have h1 : i.zero = some (.agg (secA secZ)) := hzz.1
  have h2 : i.size = 64 := hzz.2.1
  have h3 : i.bytes = 64 := hzz.2.2
  rw [run_make (P := Try.prog) w 24 29 i _ Try.underlying24 hi' h1 .i64 .i64 n n h0 (Int.le_refl _) (by rw [h3]; omega) (by omega)]
  rw [h2, show (Value.agg (secA secZ)).cells = secA secZ from rfl, made_secs]
  rfl
theorem ownB_new (w : World) (n : Nat) (h : n ≤ maxLen) : OwnG 4 (w.alloc (.cells (rowF n) 4)) w.heap.size (.slice (some ⟨w.heap.size, 0, none⟩) n n) (bV (List.replicate n false)) := by
  have := OwnG.lit 4 w (bV (List.replicate n false)) (by rw [bV_len]; simpa using h)
  rw [bV_len, List.length_replicate] at this
  exact this
theorem ownS_new (w : World) (n : Nat) (h : n ≤ maxLen) : OwnK secE (w.alloc (.cells (rowZ n) 29)) w.heap.size (.slice (some ⟨w.heap.size, 0, none⟩) n n) (List.replicate n secZ) := by
  have := OwnK.lit secE_ok w (List.replicate n secZ) (by simpa using h)
  rw [List.length_replicate] at this
  exact this
theorem bV_set (b : List Bool) (i : Nat) (a : Bool) : (bV b).set i (.bool a) = bV (b.set i a) := by simp [bV]
theorem OwnK.cellAt {w : World} {B g n c : Nat} {ds : List Sc} (h : OwnK secE w B (.slice (some ⟨g, 0, none⟩) n c) ds) (i : Nat) (d : Sc) (hi : ds[i]? = some d) (j : Nat) (hj : j < 64) : w.cell? ⟨g, i * 64 + j, none⟩ = some (.int .u8 ((d j).toNat : Int)) := by
  have h1 := h.range secE_ok i d hi
  rw [secE_k, secE_enc] at h1
  exact h1 j _ (by rw [Array.getElem?_toList, secA_get d j hj])
/-! What the document fixes -/
def kb : List Bool := ((((List.replicate 64 false).set 0 true).set 9 true).set 63 true)
theorem kb_len : kb.length = 64 := by simp [kb]
theorem kb0 : putS kb 0 0 = 1 := by unfold putS; rw [sealS_low _ _ (by omega)]; decide +kernel
theorem kb1 : putS kb 0 1 = 2 := by unfold putS; rw [sealS_low _ _ (by omega)]; decide +kernel
theorem kb7 : putS kb 0 7 = 128 := by unfold putS; rw [sealS_low _ _ (by omega)]; decide +kernel
theorem zero_torn : isSl secZ = false := by decide +kernel
theorem many64 : manyN 64 = 1 := by decide
theorem bad_zero : getBad [secZ] 64 = [0] := by
  unfold getBad
  rw [if_pos ⟨by decide, rfl⟩]
  simp [badU, tornB, zero_torn]
theorem put_kb : putL kb = [putS kb 0] := by
  unfold putL
  rw [kb_len, many64]
  rfl
end Go.Proofs.Ytfnffkommcepoaa
