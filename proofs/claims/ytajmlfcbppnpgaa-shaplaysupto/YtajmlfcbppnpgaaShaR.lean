
import Derived.Test.YtajmlfcbppnpgaaShaM
import Derived.Test.YtajmlfcbppnpgaaGenA
import Derived.BigQuiet
import Derived.Deep.QuietTactic
import Derived.WalkSpells
namespace Go.Proofs.Ytajmlfcbppnpgaa
open Go.RowKit

/-! The document's own answers of chapter 3 -/
theorem below_drewN {B : Nat} {W X : World} (h : Below B W X) (n : Nat) : Below B W (X.drewN n) := ⟨h.os, h.tape, h.output, h.size, h.block⟩
set_option maxHeartbeats 400000 in
theorem refRot_any (x : Wd) (n : Nat) (w : World) (hn0 : 0 < n) (hn : n < 32) :
    Calls Try.prog 25 #[.int .u32 (x.toNat : Nat), .int .i64 (n : Nat)] w fun e w' => e = .returned (.int .u32 ((rotr x n).toNat : Nat)) ∧ Below w.heap.size w w' := by
  have h1 := wd_lt x
  have h2 := shr_wd x n
  have h3 := shl_wd x (32 - n)
  have h4 := or_wd (x >>> n) (x <<< (32 - n))
  have HR : Hid (rotr x n = (x >>> n) ||| (x <<< (32 - n))) := rfl
  generalize (x >>> n) ||| (x <<< (32 - n)) = r at h4 HR
  generalize x >>> n = a at h2 h4
  generalize x <<< (32 - n) = b at h3 h4
  rw [HR.out]
  have hn1 : (n : Int) < 32 := by omega
  have hn2 : (0 : Int) ≤ (n : Int) := by omega
  go_enter Try.func25, Try.ntmps25
  go_wp2
  go_quiet (fail)
  go_wp2
  go_ret
  exact ⟨rfl, below_drewN (Below.refl _ _) _⟩
theorem eltW : Elt 52 42 4 := ⟨Try.underlying52, by
  have h : (Try.prog.info? 42).map (fun i => (i.zero, i.size, i.bytes)) = some (some (.int .u32 0), 1, 4) := by kernel_rfl
  obtain ⟨i, hi, hzz⟩ := Option.map_eq_some_iff.1 h
  simp only [Prod.mk.injEq] at hzz
  exact ⟨i, _, hi, hzz.1, hzz.2.1, hzz.2.2, rfl⟩⟩
def wsV (l : List Wd) : List Value := l.map fun x => Value.int .u32 ((x.toNat : Nat) : Int)
theorem wsV_length (l : List Wd) : (wsV l).length = l.length := by simp [wsV]
theorem wsV_get (l : List Wd) (i : Nat) (h : i < l.length) : (wsV l)[i]? = some (.int .u32 ((wAt l i).toNat : Nat)) := by simp [wsV, wAt, h]
theorem wsV_snoc (l : List Wd) (x : Wd) : wsV (l ++ [x]) = wsV l ++ [.int .u32 ((x.toNat : Nat) : Int)] := by simp [wsV]
theorem wsV_one (l : List Wd) : ∀ u ∈ wsV l, u.oneCell' = true := fun v hv => by
  simp only [wsV, List.mem_map] at hv
  obtain ⟨b, _, rfl⟩ := hv
  rfl
set_option maxRecDepth 100000 in
set_option maxHeartbeats 400000 in
theorem refConsts_any (w : World) :
    Calls Try.prog 24 #[] w fun e w' => e = .returned (.slice (some ⟨w.heap.size, 0, none⟩) 64 64) ∧ w' = w.alloc (.cells (wsV kL).toArray 42) := by
  go_enter Try.func24, Try.ntmps24
  go_wp2
  go_ret
  exact ⟨rfl, by kernel_rfl⟩
end Go.Proofs.Ytajmlfcbppnpgaa
