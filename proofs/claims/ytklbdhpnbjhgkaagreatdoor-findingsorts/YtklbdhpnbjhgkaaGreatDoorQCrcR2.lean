import Derived.Test.YtklbdhpnbjhgkaaGreatDoorQCrcR
import Derived.Test.YtklbdhpnbjhgkaaGreatDoorQNum
import Derived.Deep.MidRow
import Derived.Deep.DeepCutAuto
namespace Go.Proofs.YtklbdhpnbjhgkaaGreatDoor
open Go.RowKit

theorem sec_isB {w : World} {n m : Nat} {s : Nat → UInt8} (c : Nat) (h : rowOk w n = true) (hs : rowAt w n = secA s) (hm : m ≤ 64) : IsB w (.slice (some ⟨n, 0, none⟩) (subL s 0 m).length c) (subL s 0 m) := by
  refine .inr ⟨_, c, rfl, fun i hi => ?_⟩
  have hadd : (⟨n, 0, none⟩ : Addr).add i = ⟨n, i, none⟩ := by unfold Addr.add; split <;> simp_all
  have hi2 : i < m := by simpa using hi
  rw [hadd, cell_rowAt h, hs, secA_get s i (by omega), subL_get, Nat.zero_add]
/-- The sector's sum, and the sector with it. -/
def secSum (s : Nat → UInt8) : BitVec 32 := sumL (subL s 0 60)
def sealS (s : Nat → UInt8) : Nat → UInt8 := putN s 60 (secSum s).toNat 4
theorem set_int (s : Nat → UInt8) (i : Nat) (x : Int) (b : UInt8) (hi : i < 64) (hx : x = (b.toNat : Int)) : (secA s).setIfInBounds i (Value.int .u8 x) = secA (upd s i b) := by
  rw [hx]; exact secA_set s i b hi
theorem put_four (s : Nat → UInt8) (x : Nat) : upd (upd (upd (upd s 60 (UInt8.ofNat (x / 256 ^ 0))) 61 (UInt8.ofNat (x / 256 ^ 1))) 62 (UInt8.ofNat (x / 256 ^ 2))) 63 (UInt8.ofNat (x / 256 ^ 3)) = putN s 60 x 4 := by
  rw [putN_succ, putN_succ, putN_succ, putN_succ, putN_zero]
theorem k_sec {w x : World} {o : Obj} (hp : Below (w.alloc o).heap.size (w.alloc o) x) : Below w.heap.size w x := ((Below.refl _ _).alloc (Nat.le_refl _) _).trans (hp.mono (by simp))
end Go.Proofs.YtklbdhpnbjhgkaaGreatDoor
