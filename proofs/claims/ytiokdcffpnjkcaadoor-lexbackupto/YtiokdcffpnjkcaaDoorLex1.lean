
import Derived.Test.YtiokdcffpnjkcaaDoorLexM
import Derived.Test.YtiokdcffpnjkcaaDoorStr
import Derived.Test.YtiokdcffpnjkcaaDoorApp
namespace Go.Proofs.YtiokdcffpnjkcaaDoor
open Go.RowKit

/-! assayref14: digit, encoded -/
theorem hex_cases (n : Nat) : n < 48 ∨ (48 ≤ n ∧ n ≤ 57) ∨ (58 ≤ n ∧ n ≤ 64) ∨ (65 ≤ n ∧ n ≤ 70) ∨ (71 ≤ n ∧ n ≤ 96) ∨ (97 ≤ n ∧ n ≤ 102) ∨ 103 ≤ n := by omega
set_option linter.unusedSimpArgs false in
set_option maxHeartbeats 1000000 in
theorem refDigit14_any (b : UInt8) (w : World) : Calls Tryd.prog 47 #[.int .u8 (b.toNat : Int)] w fun e w' => e = .returned (.int .i64 (hexV b)) ∧ Below w.heap.size w w' := by
  have hlt := b.toNat_lt
  have HV : Hid (hexV b = (if 48 ≤ b.toNat ∧ b.toNat ≤ 57 then (b.toNat : Int) - 48 else if 97 ≤ b.toNat ∧ b.toNat ≤ 102 then (b.toNat : Int) - 97 + 10 else if 65 ≤ b.toNat ∧ b.toNat ≤ 70 then (b.toNat : Int) - 65 + 10 else -1)) := rfl
  obtain ⟨R, hR⟩ : ∃ q, hexV b = q := ⟨_, rfl⟩
  rw [hR] at HV ⊢
  clear hR
  obtain ⟨c, hc⟩ : ∃ q, b.toNat = q := ⟨_, rfl⟩
  rw [hc] at HV hlt ⊢
  go_enter Tryd.func47, Tryd.ntmps47
  rcases hex_cases c with hcl | hcl | hcl | hcl | hcl | hcl | hcl
  · have f0 : ¬ (48 : Int) ≤ (c : Int) := by omega
    have f1 : (c : Int) ≤ 57 := by omega
    have f2 : ¬ (97 : Int) ≤ (c : Int) := by omega
    have f3 : (c : Int) ≤ 102 := by omega
    have f4 : ¬ (65 : Int) ≤ (c : Int) := by omega
    have f5 : (c : Int) ≤ 70 := by omega
    have HR : Hid (R = -1) := by show _ = _; rw [HV.out]; (repeat' split) <;> omega
    clear HV
    go_wp2
    go_ret
    exact ⟨by rw [HR.out]; first | rfl | go_num, Below.refl _ _⟩
  · have f0 : (48 : Int) ≤ (c : Int) := by omega
    have f1 : (c : Int) ≤ 57 := by omega
    have f2 : ¬ (97 : Int) ≤ (c : Int) := by omega
    have f3 : (c : Int) ≤ 102 := by omega
    have f4 : ¬ (65 : Int) ≤ (c : Int) := by omega
    have f5 : (c : Int) ≤ 70 := by omega
    have HR : Hid (R = (c : Int) - 48) := by show _ = _; rw [HV.out]; (repeat' split) <;> omega
    clear HV
    go_wp2
    go_ret
    exact ⟨by rw [HR.out]; first | rfl | go_num, Below.refl _ _⟩
  · have f0 : (48 : Int) ≤ (c : Int) := by omega
    have f1 : ¬ (c : Int) ≤ 57 := by omega
    have f2 : ¬ (97 : Int) ≤ (c : Int) := by omega
    have f3 : (c : Int) ≤ 102 := by omega
    have f4 : ¬ (65 : Int) ≤ (c : Int) := by omega
    have f5 : (c : Int) ≤ 70 := by omega
    have HR : Hid (R = -1) := by show _ = _; rw [HV.out]; (repeat' split) <;> omega
    clear HV
    go_wp2
    go_ret
    exact ⟨by rw [HR.out]; first | rfl | go_num, Below.refl _ _⟩
  · have f0 : (48 : Int) ≤ (c : Int) := by omega
    have f1 : ¬ (c : Int) ≤ 57 := by omega
    have f2 : ¬ (97 : Int) ≤ (c : Int) := by omega
    have f3 : (c : Int) ≤ 102 := by omega
    have f4 : (65 : Int) ≤ (c : Int) := by omega
    have f5 : (c : Int) ≤ 70 := by omega
    have HR : Hid (R = (c : Int) - 65 + 10) := by show _ = _; rw [HV.out]; (repeat' split) <;> omega
    clear HV
    go_wp2
    go_ret
    exact ⟨by rw [HR.out]; first | rfl | go_num, Below.refl _ _⟩
  · have f0 : (48 : Int) ≤ (c : Int) := by omega
    have f1 : ¬ (c : Int) ≤ 57 := by omega
    have f2 : ¬ (97 : Int) ≤ (c : Int) := by omega
    have f3 : (c : Int) ≤ 102 := by omega
    have f4 : (65 : Int) ≤ (c : Int) := by omega
    have f5 : ¬ (c : Int) ≤ 70 := by omega
    have HR : Hid (R = -1) := by show _ = _; rw [HV.out]; (repeat' split) <;> omega
    clear HV
    go_wp2
    go_ret
    exact ⟨by rw [HR.out]; first | rfl | go_num, Below.refl _ _⟩
  · have f0 : (48 : Int) ≤ (c : Int) := by omega
    have f1 : ¬ (c : Int) ≤ 57 := by omega
    have f2 : (97 : Int) ≤ (c : Int) := by omega
    have f3 : (c : Int) ≤ 102 := by omega
    have f4 : (65 : Int) ≤ (c : Int) := by omega
    have f5 : ¬ (c : Int) ≤ 70 := by omega
    have HR : Hid (R = (c : Int) - 97 + 10) := by show _ = _; rw [HV.out]; (repeat' split) <;> omega
    clear HV
    go_wp2
    go_ret
    exact ⟨by rw [HR.out]; first | rfl | go_num, Below.refl _ _⟩
  · have f0 : (48 : Int) ≤ (c : Int) := by omega
    have f1 : ¬ (c : Int) ≤ 57 := by omega
    have f2 : (97 : Int) ≤ (c : Int) := by omega
    have f3 : ¬ (c : Int) ≤ 102 := by omega
    have f4 : (65 : Int) ≤ (c : Int) := by omega
    have f5 : ¬ (c : Int) ≤ 70 := by omega
    have HR : Hid (R = -1) := by show _ = _; rw [HV.out]; (repeat' split) <;> omega
    clear HV
    go_wp2
    go_ret
    exact ⟨by rw [HR.out]; first | rfl | go_num, Below.refl _ _⟩
theorem str_new14 (w : World) (l : List UInt8) : (convert 29 9 (.slice (some ⟨w.heap.size, 0, none⟩) l.length l.length)).run Tryd.prog (w.alloc (.cells (bytesA l) 5)) = .ok (.string ⟨l.toArray⟩) (w.alloc (.cells (bytesA l) 5)) := by
  refine IsB.str (.inr ⟨⟨w.heap.size, 0, none⟩, l.length, rfl, fun i hi => ?_⟩)
  rw [addr_add, Nat.zero_add, cell_of_row _ _ _ _ _ _ (heap_alloc_last _ _), bytesA_get l i hi]
theorem u8_nat (n : Nat) (h : n < 256) : (u8 n).toNat = n := by unfold u8; rw [UInt8.toNat_ofNat']; omega
set_option linter.unusedSimpArgs false in
set_option maxRecDepth 100000 in
set_option maxHeartbeats 1000000 in
theorem refEnc_any (v : Nat) (hv : v ≤ 1114111) (w : World) : Calls Tryd.prog 32 #[.int .i64 (v : Int)] w fun e w' => e = .returned (.string ⟨(enc v).toArray⟩) ∧ Below w.heap.size w w' := by
  by_cases h1 : v < 128
  · have j : (v : Int) < 128 := by omega
    have e1 : enc v = [u8 v] := by unfold enc; rw [if_pos h1]
    have a0 : ((u8 (v)).toNat : Int) = (v : Int) := by (rw [u8_nat _ (by omega)]) <;> omega
    have hq : #[Value.int .u8 ((v : Int))] = bytesA (enc v) := by rw [e1]; simp only [bytesA, List.map_cons, List.map_nil, a0]
    have hcv : (convert 29 9 (.slice (some ⟨w.heap.size, 0, none⟩) 1 1)).run Tryd.prog (w.alloc (.cells #[Value.int .u8 ((v : Int))] 5)) = .ok (.string ⟨(enc v).toArray⟩) (w.alloc (.cells #[Value.int .u8 ((v : Int))] 5)) := by
      have h9 := str_new14 w (enc v)
      rw [← hq, show (enc v).length = 1 by rw [e1]; rfl] at h9
      exact h9
    generalize (enc v).toArray = EA at hcv ⊢
    clear e1 hq a0
    go_enter Tryd.func32, Tryd.ntmps32
    go_wp2
    go_ret
    exact ⟨rfl, below_alloc _ _⟩
  by_cases h2 : v < 2048
  · have i0 : ¬ (v : Int) < 128 := by omega
    have j : (v : Int) < 2048 := by omega
    have e1 : enc v = [u8 (192 + v / 64), u8 (128 + v % 64)] := by unfold enc; rw [if_neg h1, if_pos h2]
    have a0 : ((u8 (192 + v / 64)).toNat : Int) = 192 + (v : Int) / 64 := by (rw [u8_nat _ (by omega)]) <;> omega
    have a1 : ((u8 (128 + v % 64)).toNat : Int) = 128 + (v : Int) % 64 := by (rw [u8_nat _ (by omega)]) <;> omega
    have hq : #[Value.int .u8 (192 + (v : Int) / 64), Value.int .u8 (128 + (v : Int) % 64)] = bytesA (enc v) := by rw [e1]; simp only [bytesA, List.map_cons, List.map_nil, a0, a1]
    have hcv : (convert 29 9 (.slice (some ⟨w.heap.size, 0, none⟩) 2 2)).run Tryd.prog (w.alloc (.cells #[Value.int .u8 (192 + (v : Int) / 64), Value.int .u8 (128 + (v : Int) % 64)] 5)) = .ok (.string ⟨(enc v).toArray⟩) (w.alloc (.cells #[Value.int .u8 (192 + (v : Int) / 64), Value.int .u8 (128 + (v : Int) % 64)] 5)) := by
      have h9 := str_new14 w (enc v)
      rw [← hq, show (enc v).length = 2 by rw [e1]; rfl] at h9
      exact h9
    generalize (enc v).toArray = EA at hcv ⊢
    clear e1 hq a0 a1
    go_enter Tryd.func32, Tryd.ntmps32
    go_wp2
    go_ret
    exact ⟨rfl, below_alloc _ _⟩
  by_cases h3 : v < 65536
  · have i0 : ¬ (v : Int) < 128 := by omega
    have i1 : ¬ (v : Int) < 2048 := by omega
    have j : (v : Int) < 65536 := by omega
    have e1 : enc v = [u8 (224 + v / 4096), u8 (128 + v / 64 % 64), u8 (128 + v % 64)] := by unfold enc; rw [if_neg h1, if_neg h2, if_pos h3]
    have a0 : ((u8 (224 + v / 4096)).toNat : Int) = 224 + (v : Int) / 4096 := by (rw [u8_nat _ (by omega)]) <;> omega
    have a1 : ((u8 (128 + v / 64 % 64)).toNat : Int) = 128 + (v : Int) / 64 % 64 := by (rw [u8_nat _ (by omega)]) <;> omega
    have a2 : ((u8 (128 + v % 64)).toNat : Int) = 128 + (v : Int) % 64 := by (rw [u8_nat _ (by omega)]) <;> omega
    have hq : #[Value.int .u8 (224 + (v : Int) / 4096), Value.int .u8 (128 + (v : Int) / 64 % 64), Value.int .u8 (128 + (v : Int) % 64)] = bytesA (enc v) := by rw [e1]; simp only [bytesA, List.map_cons, List.map_nil, a0, a1, a2]
    have hcv : (convert 29 9 (.slice (some ⟨w.heap.size, 0, none⟩) 3 3)).run Tryd.prog (w.alloc (.cells #[Value.int .u8 (224 + (v : Int) / 4096), Value.int .u8 (128 + (v : Int) / 64 % 64), Value.int .u8 (128 + (v : Int) % 64)] 5)) = .ok (.string ⟨(enc v).toArray⟩) (w.alloc (.cells #[Value.int .u8 (224 + (v : Int) / 4096), Value.int .u8 (128 + (v : Int) / 64 % 64), Value.int .u8 (128 + (v : Int) % 64)] 5)) := by
      have h9 := str_new14 w (enc v)
      rw [← hq, show (enc v).length = 3 by rw [e1]; rfl] at h9
      exact h9
    generalize (enc v).toArray = EA at hcv ⊢
    clear e1 hq a0 a1 a2
    go_enter Tryd.func32, Tryd.ntmps32
    go_wp2
    go_ret
    exact ⟨rfl, below_alloc _ _⟩
  have i0 : ¬ (v : Int) < 128 := by omega
  have i1 : ¬ (v : Int) < 2048 := by omega
  have i2 : ¬ (v : Int) < 65536 := by omega
  have e1 : enc v = [u8 (240 + v / 262144), u8 (128 + v / 4096 % 64), u8 (128 + v / 64 % 64), u8 (128 + v % 64)] := by unfold enc; rw [if_neg h1, if_neg h2, if_neg h3]
  have a0 : ((u8 (240 + v / 262144)).toNat : Int) = 240 + (v : Int) / 262144 := by (rw [u8_nat _ (by omega)]) <;> omega
  have a1 : ((u8 (128 + v / 4096 % 64)).toNat : Int) = 128 + (v : Int) / 4096 % 64 := by (rw [u8_nat _ (by omega)]) <;> omega
  have a2 : ((u8 (128 + v / 64 % 64)).toNat : Int) = 128 + (v : Int) / 64 % 64 := by (rw [u8_nat _ (by omega)]) <;> omega
  have a3 : ((u8 (128 + v % 64)).toNat : Int) = 128 + (v : Int) % 64 := by (rw [u8_nat _ (by omega)]) <;> omega
  have hq : #[Value.int .u8 (240 + (v : Int) / 262144), Value.int .u8 (128 + (v : Int) / 4096 % 64), Value.int .u8 (128 + (v : Int) / 64 % 64), Value.int .u8 (128 + (v : Int) % 64)] = bytesA (enc v) := by rw [e1]; simp only [bytesA, List.map_cons, List.map_nil, a0, a1, a2, a3]
  have hcv : (convert 29 9 (.slice (some ⟨w.heap.size, 0, none⟩) 4 4)).run Tryd.prog (w.alloc (.cells #[Value.int .u8 (240 + (v : Int) / 262144), Value.int .u8 (128 + (v : Int) / 4096 % 64), Value.int .u8 (128 + (v : Int) / 64 % 64), Value.int .u8 (128 + (v : Int) % 64)] 5)) = .ok (.string ⟨(enc v).toArray⟩) (w.alloc (.cells #[Value.int .u8 (240 + (v : Int) / 262144), Value.int .u8 (128 + (v : Int) / 4096 % 64), Value.int .u8 (128 + (v : Int) / 64 % 64), Value.int .u8 (128 + (v : Int) % 64)] 5)) := by
    have h9 := str_new14 w (enc v)
    rw [← hq, show (enc v).length = 4 by rw [e1]; rfl] at h9
    exact h9
  generalize (enc v).toArray = EA at hcv ⊢
  clear e1 hq a0 a1 a2 a3
  go_enter Tryd.func32, Tryd.ntmps32
  go_wp2
  go_ret
  exact ⟨rfl, below_alloc _ _⟩
end Go.Proofs.YtiokdcffpnjkcaaDoor
