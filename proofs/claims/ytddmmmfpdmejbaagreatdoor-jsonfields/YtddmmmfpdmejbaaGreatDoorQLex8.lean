import Derived.Test.YtddmmmfpdmejbaaGreatDoorQLex1
import Derived.Test.YtddmmmfpdmejbaaGreatDoorQRowg
namespace Go.Proofs.YtddmmmfpdmejbaaGreatDoor
open Go.RowKit

/-! assayref14.one -/
def tkA (k a n : Int) (S : ByteArray) : Array Value := #[.int .i64 k, .int .i64 a, .int .i64 n, .string S]
@[go_sem] theorem tkA_size (k a n : Int) (S : ByteArray) : (tkA k a n S).size = 4 := rfl
@[go_sem] theorem tk_one (k a n : Int) (S : ByteArray) : OneC #[.int .i64 k, .int .i64 a, .int .i64 n, .string S] = true := by simp [OneC, Value.oneCell']
section
variable (ρ : Operand → Value) (dst : Option Tmp) (ty : TypeId) (pos : String) (after : Array Edge) (guard : Option (Nat × Bool))
@[go_sem ↓] theorem execOp_store_tk (x y : Operand) : execOp ρ { dst, op := .store 123 x y, type := ty, pos, after, guard } = bigStore 123 (ρ x) (ρ y) := rfl
@[go_sem ↓] theorem execOp_alloc_tk : execOp ρ { dst, op := .alloc 123, type := ty, pos, after, guard } = bigAlloc 123 := rfl
end
theorem info_tk : (Tryz.prog.info? 123).map (fun i => (i.zero, i.size)) = some (some (.agg (tkA 0 0 0 ⟨#[]⟩)), 4) := by kernel_rfl
theorem sizeT_tk : (Tryz.prog.info? 123).map (·.size) = some 4 := (zero_of_info info_tk).2
@[go_sem] theorem run_store_tk (w : World) (g : Nat) (c : Array Value) (h : rowL w g = true) (hs : (rowAt w g).size = 4) (hc : c.size = 4) (h1 : OneC c = true) : (bigStore 123 (.pointer (some ⟨g, 0, none⟩)) (.agg c)).run Tryz.prog w = .ok .skip (w.setRow g c) := by
  rw [run_bigStore 123 4 sizeT_tk w g 0 c h hc (by omega) h1, layC_all _ _ (by omega)]
@[go_sem] theorem run_alloc_tk (w : World) : (bigAlloc 123).run Tryz.prog w = .ok (.value (.pointer (some ⟨w.heap.size, 0, none⟩))) (w.alloc (.cells (tkA 0 0 0 ⟨#[]⟩) 123)) := by
  simp only [bigAlloc, Instr.alloc, Sem.run_bind, (zero_of_info info_tk).1 w, Result.andThen_ok]
  rfl
theorem wl_le : ∀ l, wl l ≤ l.length
  | [] => Nat.le_refl _
  | b :: l => by
    rw [wl]
    split
    · have := wl_le l; simp; omega
    · simp
theorem wl_step (l : List UInt8) (k : Nat) (h : k < l.length) : wl (l.drop k) = if inW (lB l k) = true then wl (l.drop (k + 1)) + 1 else 0 := by
  have e1 : l.drop k = lB l k :: l.drop (k + 1) := by
    rw [List.drop_eq_getElem_cons h]; unfold lB; rw [List.getElem?_eq_getElem h]; rfl
  rw [e1, wl]
theorem sgn_R (l : List UInt8) (i : Nat) (h : sgnAt (lB l 0) 6 0 = some i) : oneTk l = (⟨(i : Int) + 1, 0, 0, []⟩, 1) := by unfold oneTk; rw [h]
theorem sgn_no (l : List UInt8) (h : sgnAt (lB l 0) 6 0 = none) : oneTk l = if lB l 0 = 34 then (⟨11, 0, 0, (txt l l.length 1 []).1⟩, (txt l l.length 1 []).2) else wordTk (l.take (wl l)) (wl l) := by unfold oneTk; rw [h]
theorem below_row14 {B n : Nat} {w0 w : World} (hb : Below B w0 w) (h : B ≤ n) (c : Array Value) : Below B w0 (w.setRow n c) :=
  ⟨hb.os, hb.tape, hb.output, by have := hb.size; simp only [World.setRow]; simpa using this, fun k hk => by rw [setRow_other w n k c (by omega)]; exact hb.block k hk⟩
theorem sEq14 {s t : ByteArray} (h : lS s = lS t) : (s.toList == t.toList) = true := by rw [lS_inj h]; simp
theorem sNe14 {s t : ByteArray} (h : lS s ≠ lS t) : (s.toList == t.toList) = false := beq_eq_false_iff_ne.2 fun e => h (by unfold lS; rw [← ByteArray.toList_eq, ← ByteArray.toList_eq]; exact e)
end Go.Proofs.YtddmmmfpdmejbaaGreatDoor
