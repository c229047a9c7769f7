import Derived.Test.YtiokdcffpnjkcaaDoorQLexd
import Derived.Test.YtiokdcffpnjkcaaDoorQLexc
import Derived.Test.YtiokdcffpnjkcaaDoorQLexQ
import Derived.Test.YtiokdcffpnjkcaaDoorQBow
namespace Go.Proofs.YtiokdcffpnjkcaaDoor
open Go.RowKit

/-! assaylaw14's blanks -/
theorem wrap_u64 (n : Int) : IntKind.u64.wrap n = ((uN n : Nat) : Int) := by
  unfold uN
  have h : IntKind.u64.wrap n = n % 18446744073709551616 := by simp [IntKind.wrap, IntKind.signed, IntKind.bits]
  rw [h]
  omega
set_option linter.unusedSimpArgs false in
set_option maxRecDepth 100000 in
set_option maxHeartbeats 4000000 in
theorem blanks14_any (n : Int) (w : World) : Calls Tryd.prog 10 #[.int .i64 n] w fun e w' => (∃ v, e = .returned v ∧ OwnB w' w.heap.size v (blkL (uN n) (uN n % 5))) ∧ Below w.heap.size w w' := by
  have hu := wrap_u64 n
  obtain ⟨u, hu2⟩ : ∃ q, uN n = q := ⟨_, rfl⟩
  rw [hu2] at hu ⊢
  go_enter Tryd.func10, Tryd.ntmps10
  go_wp2_with fail
  go_loopw [4, 5] (fun vb iv wr => ∃ k : Nat, k ≤ u % 5 ∧ iv = .int .i64 k ∧ OwnB wr w.heap.size vb (blkL u k) ∧ Below w.heap.size w wr) (fun _ iv _ => u % 5 - (intOf iv).toNat)
  case atStart => exact ⟨0, by omega, rfl, OwnB.nil _ _, Below.refl _ _⟩
  case round =>
    obtain ⟨k, hk, rfl, hO, hB⟩ := hrel
    by_cases hlt : k < u % 5
    · have i1 : (k : Int) < (u : Int) % 5 := by omega
      obtain ⟨c, hc⟩ : ∃ c, lB blS ((k + u % 4) % 4) = c := ⟨_, rfl⟩
      have hA : ∀ W : World, (sAt (.string ⟨#[32, 9, 10, 13]⟩) (.int .i64 (((k : Int) + (u : Int)) % 4))).run Tryd.prog W = .ok (.value (.int .u8 (c.toNat : Int))) W := fun W => by
        have h9 := run_sAt W ⟨#[32, 9, 10, 13]⟩ ((k + u % 4) % 4) (by show _ < (4 : Int); omega)
        rw [show (((k + u % 4) % 4 : Nat) : Int) = ((k : Int) + (u : Int)) % 4 by omega, show lS ⟨#[32, 9, 10, 13]⟩ = blS from rfl, hc] at h9
        exact h9
      have bC := below_alloc wr (.cells #[Value.int .u8 (c.toNat : Int)] 5)
      have hy : (wr.alloc (.cells #[Value.int .u8 (c.toNat : Int)] 5)).cell? ⟨wr.heap.size, 0, none⟩ = some (.int .u8 (c.toNat : Int)) := cell_of_row _ _ 0 _ _ _ (heap_alloc_last _ _)
      obtain ⟨v1, w1, hr, hO1, hg1⟩ := run_app1 _ w.heap.size wr.heap.size 1 u4 (blkL u k) c 29 (hO.keep bC) hy (by rw [blkL_len]; omega) (Nat.le_trans hB.size bC.size)
      rw [← hc, ← blkL_succ] at hO1
      have HO : Hid _ := hO1
      have HB : Hid _ := (hB.trans (bC.mono hB.size)).trans hg1.1
      clear hO1 hg1 hB hO hc hu2 bC hy
      go_wp2_with (at_builtin; refine wpL_app rfl _ _ rfl v1 w1 (by exact hr) ?_)
      go_roundw
      case rel => exact ⟨k + 1, by omega, by go_num, HO.out, HB.out⟩
      case measure => simp [intOf]; omega
    · obtain rfl : k = u % 5 := by omega
      have i1 : ¬ ((u % 5 : Nat) : Int) < (u : Int) % 5 := by omega
      have HO : Hid _ := hO
      have HB : Hid _ := hB
      clear hO hB hu2
      go_wp2
      go_ret
      exact ⟨⟨_, rfl, HO.out⟩, HB.out⟩
end Go.Proofs.YtiokdcffpnjkcaaDoor
