
import Derived.Test.YtiokdcffpnjkcaaDoorLxm
import Derived.Test.YtiokdcffpnjkcaaDoorLxl
namespace Go.Proofs.YtiokdcffpnjkcaaDoor
open Go.RowKit

/-! What the library's Builder does -/
/-- In w block b is a Builder of the call's own (from B on), and it holds l. -/
def Bd (B b : Nat) (l : List UInt8) (w : World) : Prop := Lib.IsBuilderF 47 5 B b (Lib.byteCells l) w
/-- What a method of the Builder leaves. -/
def BdP (B b : Nat) (l : List UInt8) (w w' : World) : Prop := Bd B b l w' ∧ Below B w w' ∧ Lib.OthersKept 5 (some b) w w'
theorem Bd.fresh (w : World) : Bd w.heap.size w.heap.size [] (w.alloc (.cells #[.pointer none, .slice none 0 0] 47)) := Lib.IsBuilderF.of (Lib.fresh_isBuilder 47 5 w)
theorem bdWB (B b : Nat) (l : List UInt8) (c : UInt8) (w : World) (h : Bd B b l w) (hl : l.length + 1 ≤ 140737488355328) (hB : B ≤ w.heap.size) :
    Calls Tryd.prog 15 #[.pointer (some ⟨b, 0, none⟩), .int .u8 (c.toNat : Int)] w fun e w' => e = .returned .nilIface ∧ BdP B b (l ++ [c]) w w' :=
  (Any.Builder_WriteByte_k layWB layWB_x B b _ (c.toNat : Int) w h (by rw [Lib.byteCells_length]; exact hl) hB).mono fun e w' ⟨he, h1, h2, h3⟩ => ⟨he, by unfold Bd; rw [Lib.byteCells_append]; exact .inr h1, h2, h3⟩
theorem bdWS (B b : Nat) (l m : List UInt8) (s : ByteArray) (hs : lS s = m) (w : World) (h : Bd B b l w) (hl : l.length + m.length ≤ 140737488355328) (hB : B ≤ w.heap.size) :
    Calls Tryd.prog 28 #[.pointer (some ⟨b, 0, none⟩), .string s] w fun e w' => e = .returned (.tuple #[.int .i64 (m.length : Int), .nilIface]) ∧ BdP B b (l ++ m) w w' := by
  subst hs
  have hz : s.size = (lS s).length := (lS_len s).symm
  refine (Any.Builder_WriteString_k layWS layWS_x B b _ s w h (by rw [Lib.byteCells_length, hz]; exact hl) hB).mono fun e w' ⟨he, h1, h2, h3⟩ => ⟨by rw [he, hz], ?_, h2, h3⟩
  unfold Bd
  rw [Lib.byteCells_append]
  exact .inr h1
theorem bdWR (B b : Nat) (l : List UInt8) (v : Nat) (hv : vR v) (w : World) (h : Bd B b l w) (hl : l.length + 4 ≤ 140737488355328) (hB : B ≤ w.heap.size) :
    Calls Tryd.prog 27 #[.pointer (some ⟨b, 0, none⟩), .int .i32 (v : Int)] w fun e w' => (∃ n, e = .returned (.tuple #[.int .i64 n, .nilIface])) ∧ BdP B b (l ++ enc v) w w' := by
  have hv1 := hv.1
  refine (Any.Builder_WriteRune_k layWR layWR_x B b _ (v : Int) (by omega) (by omega) w h (by rw [Lib.byteCells_length]; exact hl) hB).mono fun e w' ⟨he, h1, h2, h3⟩ => ⟨⟨_, he⟩, ?_, h2, h3⟩
  unfold Bd
  rw [Lib.byteCells_append, ← enc_Z v hv, Lib.byteCells_encodeRune]
  exact .inr h1
theorem bdST (B b : Nat) (l : List UInt8) (w : World) (h : Bd B b l w) (hB : B ≤ w.heap.size) :
    Calls Tryd.prog 18 #[.pointer (some ⟨b, 0, none⟩)] w fun e w' => e = .returned (.string ⟨l.toArray⟩) ∧ BdP B b l w w' :=
  Any.Builder_String_any_k layBS layBS_x B b l w h hB
end Go.Proofs.YtiokdcffpnjkcaaDoor
