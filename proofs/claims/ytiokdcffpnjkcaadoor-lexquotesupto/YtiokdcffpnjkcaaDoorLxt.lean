
import Derived.Test.YtiokdcffpnjkcaaDoorLxo
import Derived.Test.YtiokdcffpnjkcaaDoorLexa
namespace Go.Proofs.YtiokdcffpnjkcaaDoor
open Go.RowKit

/-! strconv.ParseUint: what it answers -/
def PuP (r : Option Nat) (w : World) (e : Ending) (w' : World) : Prop := Below w.heap.size w w' ∧ ((∃ v : Nat, r = some v ∧ e = .returned (.tuple #[.int .u64 (v : Int), .nilIface])) ∨ (r = none ∧ ∃ x t p, e = .returned (.tuple #[.int .u64 x, .iface t p])))
theorem toErr1 (fn t : ByteArray) (a b : Int) (W : World) (hW : Vx W) (hmax : t.size ≤ 140737488355328) : Calls Tryd.prog 46 #[.string fn, .string t, .int .i64 a, .int .i64 b, .iface 87 (.int .i64 1)] W fun e w' => (∃ t p, e = .returned (.iface t p)) ∧ Below W.heap.size W w' := by
  obtain ⟨-, ⟨tp, p, h1⟩⟩ := hW
  exact (AnyPu.strconv_toError_range layTE fn t a b _ W (by omega) h1 (.inr ⟨tp, p, rfl⟩)).mono fun e w' ⟨N, h1, _, _, h4⟩ => ⟨⟨_, _, h1⟩, h4⟩
theorem toErr2 (fn t : ByteArray) (a b : Int) (W : World) (hW : Vx W) (hmax : t.size ≤ 140737488355328) : Calls Tryd.prog 46 #[.string fn, .string t, .int .i64 a, .int .i64 b, .iface 87 (.int .i64 2)] W fun e w' => (∃ t p, e = .returned (.iface t p)) ∧ Below W.heap.size W w' := by
  obtain ⟨⟨tp, p, h1⟩, -⟩ := hW
  exact (AnyPu.strconv_toError_syntax layTE fn t a b _ W (by omega) h1 (.inr ⟨tp, p, rfl⟩)).mono fun e w' ⟨N, h1, _, _, h4⟩ => ⟨⟨_, _, h1⟩, h4⟩
set_option linter.unusedSimpArgs false in
set_option maxRecDepth 100000 in
set_option maxHeartbeats 4000000 in
theorem pU_of (t : ByteArray) (a b : Int) (r : Option Nat) (w : World) (hV : Vx w) (hmax : t.size ≤ 140737488355328) (h : Calls Tryd.prog 45 #[.string t, .int .i64 a, .int .i64 b] w fun e w' => IpP r w e w') : Calls Tryd.prog 41 #[.string t, .int .i64 a, .int .i64 b] w fun e w' => PuP r w e w' := by
  go_enter Tryd.func41, Tryd.ntmps41
  go_wp2_with fail
  refine h.mono ?_
  rintro e w1 ⟨hb, ⟨v, hr, rfl⟩ | ⟨hr, ⟨x, rfl⟩ | ⟨x, rfl⟩⟩⟩
  · have HP : Hid (PuP r w (.returned (.tuple #[.int .u64 (v : Int), .nilIface])) w1) := ⟨hb, .inl ⟨v, hr, rfl⟩⟩
    clear h hr hb
    go_wp2
    go_ret2
    exact HP.out
  · have k := toErr1 ⟨#[80, 97, 114, 115, 101, 85, 105, 110, 116]⟩ t a b w1 (hV.below hb) hmax
    clear h
    go_wp2_with fail
    refine k.mono ?_
    rintro e w2 ⟨⟨t9, p9, rfl⟩, hb2⟩
    have HP : Hid (PuP r w (.returned (.tuple #[.int .u64 x, .iface t9 p9])) w2) := ⟨hb.trans (hb2.mono hb.size), .inr ⟨hr, x, t9, p9, rfl⟩⟩
    clear hr hb hb2 k
    go_wp2
    go_ret2
    exact HP.out
  · have k := toErr2 ⟨#[80, 97, 114, 115, 101, 85, 105, 110, 116]⟩ t a b w1 (hV.below hb) hmax
    clear h
    go_wp2_with fail
    refine k.mono ?_
    rintro e w2 ⟨⟨t9, p9, rfl⟩, hb2⟩
    have HP : Hid (PuP r w (.returned (.tuple #[.int .u64 x, .iface t9 p9])) w2) := ⟨hb.trans (hb2.mono hb.size), .inr ⟨hr, x, t9, p9, rfl⟩⟩
    clear hr hb hb2 k
    go_wp2
    go_ret2
    exact HP.out
theorem pU10 (t : ByteArray) (w : World) (hV : Vx w) (hmax : t.size ≤ 140737488355328) : Calls Tryd.prog 41 #[.string t, .int .i64 10, .int .i64 63] w fun e w' => PuP (r10 (lS t)) w e w' := pU_of t 10 63 _ w hV hmax (iPU10 t w hmax)
theorem pU16 (t : ByteArray) (w : World) (hV : Vx w) (h4 : t.size = 4) : Calls Tryd.prog 41 #[.string t, .int .i64 16, .int .i64 16] w fun e w' => PuP (uH (lS t) 4) w e w' := pU_of t 16 16 _ w hV (by omega) (iPU16 t w h4)
end Go.Proofs.YtiokdcffpnjkcaaDoor
