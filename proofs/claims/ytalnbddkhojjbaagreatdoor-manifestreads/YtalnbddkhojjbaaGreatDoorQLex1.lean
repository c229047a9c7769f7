import Derived.Test.YtalnbddkhojjbaaGreatDoorQNum
import Derived.Test.YtalnbddkhojjbaaGreatDoorQStr
import Derived.Test.YtalnbddkhojjbaaGreatDoorQApp
namespace Go.Proofs.YtalnbddkhojjbaaGreatDoor
set_option linter.unusedSimpArgs false
open Go.RowKit

theorem hex_cases (n : Nat) : n < 48 ∨ (48 ≤ n ∧ n ≤ 57) ∨ (58 ≤ n ∧ n ≤ 64) ∨ (65 ≤ n ∧ n ≤ 70) ∨ (71 ≤ n ∧ n ≤ 96) ∨ (97 ≤ n ∧ n ≤ 102) ∨ 103 ≤ n := by omega
set_option maxHeartbeats 1000000 in
theorem refDigit14_any (b : UInt8) (w : World) : Calls Tryz.prog 141 #[.int .u8 (b.toNat : Int)] w fun e w' => e = .returned (.int .i64 (hexV b)) ∧ Below w.heap.size w w' := by
  have hlt := b.toNat_lt
  have HV : Hid (hexV b = (if 48 ≤ b.toNat ∧ b.toNat ≤ 57 then (b.toNat : Int) - 48 else if 97 ≤ b.toNat ∧ b.toNat ≤ 102 then (b.toNat : Int) - 97 + 10 else if 65 ≤ b.toNat ∧ b.toNat ≤ 70 then (b.toNat : Int) - 65 + 10 else -1)) := rfl
  obtain ⟨R, hR⟩ : ∃ q, hexV b = q := ⟨_, rfl⟩
  rw [hR] at HV ⊢
  clear hR
  obtain ⟨c, hc⟩ : ∃ q, b.toNat = q := ⟨_, rfl⟩
  rw [hc] at HV hlt ⊢
  go_enter Tryz.func141, Tryz.ntmps141
  rcases hex_cases c with hcl | hcl | hcl | hcl | hcl | hcl | hcl
  · have f0 : ¬ (48 : Int) ≤ (c : Int) := by omega
    have f1 : (c : Int) ≤ 57 := by omega
    have f2 : ¬ (97 : Int) ≤ (c : Int) := by omega
    have f3 : (c : Int) ≤ 102 := by omega
    have f4 : ¬ (65 : Int) ≤ (c : Int) := by omega
    have f5 : (c : Int) ≤ 70 := by omega
    have HR : Hid (R = -1) := by show _ = _; rw [HV.out]; (repeat' split) <;> omega
    clear HV
    go_wp2
    go_ret
    exact ⟨by rw [HR.out]; first | rfl | go_num, Below.refl _ _⟩
  · have f0 : (48 : Int) ≤ (c : Int) := by omega
    have f1 : (c : Int) ≤ 57 := by omega
    have f2 : ¬ (97 : Int) ≤ (c : Int) := by omega
    have f3 : (c : Int) ≤ 102 := by omega
    have f4 : ¬ (65 : Int) ≤ (c : Int) := by omega
    have f5 : (c : Int) ≤ 70 := by omega
    have HR : Hid (R = (c : Int) - 48) := by show _ = _; rw [HV.out]; (repeat' split) <;> omega
    clear HV
    go_wp2
    go_ret
    exact ⟨by rw [HR.out]; first | rfl | go_num, Below.refl _ _⟩
  · have f0 : (48 : Int) ≤ (c : Int) := by omega
    have f1 : ¬ (c : Int) ≤ 57 := by omega
    have f2 : ¬ (97 : Int) ≤ (c : Int) := by omega
    have f3 : (c : Int) ≤ 102 := by omega
    have f4 : ¬ (65 : Int) ≤ (c : Int) := by omega
    have f5 : (c : Int) ≤ 70 := by omega
    have HR : Hid (R = -1) := by show _ = _; rw [HV.out]; (repeat' split) <;> omega
    clear HV
    go_wp2
    go_ret
    exact ⟨by rw [HR.out]; first | rfl | go_num, Below.refl _ _⟩
  · have f0 : (48 : Int) ≤ (c : Int) := by omega
    have f1 : ¬ (c : Int) ≤ 57 := by omega
    have f2 : ¬ (97 : Int) ≤ (c : Int) := by omega
    have f3 : (c : Int) ≤ 102 := by omega
    have f4 : (65 : Int) ≤ (c : Int) := by omega
    have f5 : (c : Int) ≤ 70 := by omega
    have HR : Hid (R = (c : Int) - 65 + 10) := by show _ = _; rw [HV.out]; (repeat' split) <;> omega
    clear HV
    go_wp2
    go_ret
    exact ⟨by rw [HR.out]; first | rfl | go_num, Below.refl _ _⟩
  · have f0 : (48 : Int) ≤ (c : Int) := by omega
    have f1 : ¬ (c : Int) ≤ 57 := by omega
    have f2 : ¬ (97 : Int) ≤ (c : Int) := by omega
    have f3 : (c : Int) ≤ 102 := by omega
    have f4 : (65 : Int) ≤ (c : Int) := by omega
    have f5 : ¬ (c : Int) ≤ 70 := by omega
    have HR : Hid (R = -1) := by show _ = _; rw [HV.out]; (repeat' split) <;> omega
    clear HV
    go_wp2
    go_ret
    exact ⟨by rw [HR.out]; first | rfl | go_num, Below.refl _ _⟩
  · have f0 : (48 : Int) ≤ (c : Int) := by omega
    have f1 : ¬ (c : Int) ≤ 57 := by omega
    have f2 : (97 : Int) ≤ (c : Int) := by omega
    have f3 : (c : Int) ≤ 102 := by omega
    have f4 : (65 : Int) ≤ (c : Int) := by omega
    have f5 : ¬ (c : Int) ≤ 70 := by omega
    have HR : Hid (R = (c : Int) - 97 + 10) := by show _ = _; rw [HV.out]; (repeat' split) <;> omega
    clear HV
    go_wp2
    go_ret
    exact ⟨by rw [HR.out]; first | rfl | go_num, Below.refl _ _⟩
  · have f0 : (48 : Int) ≤ (c : Int) := by omega
    have f1 : ¬ (c : Int) ≤ 57 := by omega
    have f2 : (97 : Int) ≤ (c : Int) := by omega
    have f3 : ¬ (c : Int) ≤ 102 := by omega
    have f4 : (65 : Int) ≤ (c : Int) := by omega
    have f5 : ¬ (c : Int) ≤ 70 := by omega
    have HR : Hid (R = -1) := by show _ = _; rw [HV.out]; (repeat' split) <;> omega
    clear HV
    go_wp2
    go_ret
    exact ⟨by rw [HR.out]; first | rfl | go_num, Below.refl _ _⟩
theorem str_new14 (w : World) (l : List UInt8) : (convert 24 9 (.slice (some ⟨w.heap.size, 0, none⟩) l.length l.length)).run Tryz.prog (w.alloc (.cells (bytesA l) 5)) = .ok (.string ⟨l.toArray⟩) (w.alloc (.cells (bytesA l) 5)) := by
  refine IsB.str (.inr ⟨⟨w.heap.size, 0, none⟩, l.length, rfl, fun i hi => ?_⟩)
  rw [addr_add, Nat.zero_add, cell_of_row _ _ _ _ _ _ (heap_alloc_last _ _), bytesA_get l i hi]
theorem u8_nat (n : Nat) (h : n < 256) : (u8 n).toNat = n := by unfold u8; rw [UInt8.toNat_ofNat']; omega
set_option maxRecDepth 100000 in
set_option maxHeartbeats 1000000 in
theorem refEnc_any (v : Nat) (hv : v ≤ 1114111) (w : World) : Calls Tryz.prog 142 #[.int .i64 (v : Int)] w fun e w' => e = .returned (.string ⟨(enc v).toArray⟩) ∧ Below w.heap.size w w' := by
  by_cases h1 : v < 128
  · have j : (v : Int) < 128 := by omega
    have e1 : enc v = [u8 v] := by unfold enc; rw [if_pos h1]
    have a0 : ((u8 (v)).toNat : Int) = (v : Int) := by (rw [u8_nat _ (by omega)]) <;> omega
    have hq : #[Value.int .u8 ((v : Int))] = bytesA (enc v) := by rw [e1]; simp only [bytesA, List.map_cons, List.map_nil, a0]
    have hcv : (convert 24 9 (.slice (some ⟨w.heap.size, 0, none⟩) 1 1)).run Tryz.prog (w.alloc (.cells #[Value.int .u8 ((v : Int))] 5)) = .ok (.string ⟨(enc v).toArray⟩) (w.alloc (.cells #[Value.int .u8 ((v : Int))] 5)) := by
      have h9 := str_new14 w (enc v)
      rw [← hq, show (enc v).length = 1 by rw [e1]; rfl] at h9
      exact h9
    generalize (enc v).toArray = EA at hcv ⊢
    clear e1 hq a0
    go_enter Tryz.func142, Tryz.ntmps142
    go_wp2
    go_ret
    exact ⟨rfl, below_alloc _ _⟩
  by_cases h2 : v < 2048
  · have i0 : ¬ (v : Int) < 128 := by omega
    have j : (v : Int) < 2048 := by omega
    have e1 : enc v = [u8 (192 + v / 64), u8 (128 + v % 64)] := by unfold enc; rw [if_neg h1, if_pos h2]
    have a0 : ((u8 (192 + v / 64)).toNat : Int) = 192 + (v : Int) / 64 := by (rw [u8_nat _ (by omega)]) <;> omega
    have a1 : ((u8 (128 + v % 64)).toNat : Int) = 128 + (v : Int) % 64 := by (rw [u8_nat _ (by omega)]) <;> omega
    have hq : #[Value.int .u8 (192 + (v : Int) / 64), Value.int .u8 (128 + (v : Int) % 64)] = bytesA (enc v) := by rw [e1]; simp only [bytesA, List.map_cons, List.map_nil, a0, a1]
    have hcv : (convert 24 9 (.slice (some ⟨w.heap.size, 0, none⟩) 2 2)).run Tryz.prog (w.alloc (.cells #[Value.int .u8 (192 + (v : Int) / 64), Value.int .u8 (128 + (v : Int) % 64)] 5)) = .ok (.string ⟨(enc v).toArray⟩) (w.alloc (.cells #[Value.int .u8 (192 + (v : Int) / 64), Value.int .u8 (128 + (v : Int) % 64)] 5)) := by
      have h9 := str_new14 w (enc v)
      rw [← hq, show (enc v).length = 2 by rw [e1]; rfl] at h9
      exact h9
    generalize (enc v).toArray = EA at hcv ⊢
    clear e1 hq a0 a1
    go_enter Tryz.func142, Tryz.ntmps142
    go_wp2
    go_ret
    exact ⟨rfl, below_alloc _ _⟩
  by_cases h3 : v < 65536
  · have i0 : ¬ (v : Int) < 128 := by omega
    have i1 : ¬ (v : Int) < 2048 := by omega
    have j : (v : Int) < 65536 := by omega
    have e1 : enc v = [u8 (224 + v / 4096), u8 (128 + v / 64 % 64), u8 (128 + v % 64)] := by unfold enc; rw [if_neg h1, if_neg h2, if_pos h3]
    have a0 : ((u8 (224 + v / 4096)).toNat : Int) = 224 + (v : Int) / 4096 := by (rw [u8_nat _ (by omega)]) <;> omega
    have a1 : ((u8 (128 + v / 64 % 64)).toNat : Int) = 128 + (v : Int) / 64 % 64 := by (rw [u8_nat _ (by omega)]) <;> omega
    have a2 : ((u8 (128 + v % 64)).toNat : Int) = 128 + (v : Int) % 64 := by (rw [u8_nat _ (by omega)]) <;> omega
    have hq : #[Value.int .u8 (224 + (v : Int) / 4096), Value.int .u8 (128 + (v : Int) / 64 % 64), Value.int .u8 (128 + (v : Int) % 64)] = bytesA (enc v) := by rw [e1]; simp only [bytesA, List.map_cons, List.map_nil, a0, a1, a2]
    have hcv : (convert 24 9 (.slice (some ⟨w.heap.size, 0, none⟩) 3 3)).run Tryz.prog (w.alloc (.cells #[Value.int .u8 (224 + (v : Int) / 4096), Value.int .u8 (128 + (v : Int) / 64 % 64), Value.int .u8 (128 + (v : Int) % 64)] 5)) = .ok (.string ⟨(enc v).toArray⟩) (w.alloc (.cells #[Value.int .u8 (224 + (v : Int) / 4096), Value.int .u8 (128 + (v : Int) / 64 % 64), Value.int .u8 (128 + (v : Int) % 64)] 5)) := by
      have h9 := str_new14 w (enc v)
      rw [← hq, show (enc v).length = 3 by rw [e1]; rfl] at h9
      exact h9
    generalize (enc v).toArray = EA at hcv ⊢
    clear e1 hq a0 a1 a2
    go_enter Tryz.func142, Tryz.ntmps142
    go_wp2
    go_ret
    exact ⟨rfl, below_alloc _ _⟩
  have i0 : ¬ (v : Int) < 128 := by omega
  have i1 : ¬ (v : Int) < 2048 := by omega
  have i2 : ¬ (v : Int) < 65536 := by omega
  have e1 : enc v = [u8 (240 + v / 262144), u8 (128 + v / 4096 % 64), u8 (128 + v / 64 % 64), u8 (128 + v % 64)] := by unfold enc; rw [if_neg h1, if_neg h2, if_neg h3]
  have a0 : ((u8 (240 + v / 262144)).toNat : Int) = 240 + (v : Int) / 262144 := by (rw [u8_nat _ (by omega)]) <;> omega
  have a1 : ((u8 (128 + v / 4096 % 64)).toNat : Int) = 128 + (v : Int) / 4096 % 64 := by (rw [u8_nat _ (by omega)]) <;> omega
  have a2 : ((u8 (128 + v / 64 % 64)).toNat : Int) = 128 + (v : Int) / 64 % 64 := by (rw [u8_nat _ (by omega)]) <;> omega
  have a3 : ((u8 (128 + v % 64)).toNat : Int) = 128 + (v : Int) % 64 := by (rw [u8_nat _ (by omega)]) <;> omega
  have hq : #[Value.int .u8 (240 + (v : Int) / 262144), Value.int .u8 (128 + (v : Int) / 4096 % 64), Value.int .u8 (128 + (v : Int) / 64 % 64), Value.int .u8 (128 + (v : Int) % 64)] = bytesA (enc v) := by rw [e1]; simp only [bytesA, List.map_cons, List.map_nil, a0, a1, a2, a3]
  have hcv : (convert 24 9 (.slice (some ⟨w.heap.size, 0, none⟩) 4 4)).run Tryz.prog (w.alloc (.cells #[Value.int .u8 (240 + (v : Int) / 262144), Value.int .u8 (128 + (v : Int) / 4096 % 64), Value.int .u8 (128 + (v : Int) / 64 % 64), Value.int .u8 (128 + (v : Int) % 64)] 5)) = .ok (.string ⟨(enc v).toArray⟩) (w.alloc (.cells #[Value.int .u8 (240 + (v : Int) / 262144), Value.int .u8 (128 + (v : Int) / 4096 % 64), Value.int .u8 (128 + (v : Int) / 64 % 64), Value.int .u8 (128 + (v : Int) % 64)] 5)) := by
    have h9 := str_new14 w (enc v)
    rw [← hq, show (enc v).length = 4 by rw [e1]; rfl] at h9
    exact h9
  generalize (enc v).toArray = EA at hcv ⊢
  clear e1 hq a0 a1 a2 a3
  go_enter Tryz.func142, Tryz.ntmps142
  go_wp2
  go_ret
  exact ⟨rfl, below_alloc _ _⟩
end Go.Proofs.YtalnbddkhojjbaaGreatDoor
namespace Go.Proofs.YtalnbddkhojjbaaGreatDoor
open Go.RowKit

def bdR : Nat → Nat
  | 0 => 32
  | k + 1 => 64 * bdR k
theorem bdR_le (k : Nat) (h : k ≤ 3) : bdR k ≤ 8388608 := by
  rcases (by omega : k = 0 ∨ k = 1 ∨ k = 2 ∨ k = 3) with rfl | rfl | rfl | rfl <;> decide
def rnP (l : List UInt8) (w : World) (e : Ending) (w' : World) : Prop := e = .returned (.tuple #[.int .i64 ((rn l).1 : Int), .int .i64 ((rn l).2 : Int)]) ∧ Below w.heap.size w w'
theorem rnP_of {l : List UInt8} {w w' : World} {a b : Nat} (h : rn l = (a, b)) (hb : Below w.heap.size w w') : rnP l w (.returned (.tuple #[.int .i64 (a : Int), .int .i64 (b : Int)])) w' := ⟨by rw [h], hb⟩
set_option linter.unusedSimpArgs false in
set_option maxRecDepth 100000 in
set_option maxHeartbeats 4000000 in
theorem refRune_any (s : ByteArray) (w : World) (h63 : s.size ≤ 9223372036854775807) : Calls Tryz.prog 120 #[.string s] w fun e w' => rnP (lS s) w e w' := by
  have hls := lS_len s
  obtain ⟨l, hl⟩ : ∃ q, lS s = q := ⟨_, rfl⟩
  rw [hl] at hls ⊢
  obtain ⟨p, hp⟩ : ∃ q, s.size = q := ⟨_, rfl⟩
  rw [hp] at hls h63
  have bW := below_alloc w (.cells #[Value.int .i64 0, Value.int .i64 0, Value.int .i64 128, Value.int .i64 2048, Value.int .i64 65536] 3)
  have hce : ∀ i, (w.alloc (.cells #[Value.int .i64 0, Value.int .i64 0, Value.int .i64 128, Value.int .i64 2048, Value.int .i64 65536] 3)).cell? ⟨w.heap.size, i, none⟩ = (#[Value.int .i64 0, Value.int .i64 0, Value.int .i64 128, Value.int .i64 2048, Value.int .i64 65536] : Array Value)[i]? := fun i => cell_of_row _ _ i _ _ _ (heap_alloc_last w _)
  have k2 := hce 2
  have k3 := hce 3
  have k4 := hce 4
  clear hce
  have hgw : w.heap.size < (w.alloc (.cells #[Value.int .i64 0, Value.int .i64 0, Value.int .i64 128, Value.int .i64 2048, Value.int .i64 65536] 3)).heap.size := by simp
  obtain ⟨g, hg⟩ : ∃ q, w.heap.size = q := ⟨_, rfl⟩
  have HGW : Hid (w.heap.size = g) := hg
  go_enter Tryz.func120, Tryz.ntmps120
  go_upto_region 2 with fail
  simp only [hg] at k2 k3 k4 hgw ⊢
  clear hg
  generalize w.alloc (.cells #[Value.int .i64 0, Value.int .i64 0, Value.int .i64 128, Value.int .i64 2048, Value.int .i64 65536] 3) = X at bW k2 k3 k4 hgw ⊢
  have k2' : X.cell? ⟨g, 2, none⟩ = some (.int .i64 128) := k2
  have k3' : X.cell? ⟨g, 3, none⟩ = some (.int .i64 2048) := k3
  have k4' : X.cell? ⟨g, 4, none⟩ = some (.int .i64 65536) := k4
  clear k2 k3 k4
  by_cases h0 : p = 0
  · have HP : Hid (rnP l w (.returned (.tuple #[.int .i64 0, .int .i64 0])) X) := rnP_of (a := 0) (b := 0) (by unfold rn; rw [if_pos (by omega)]) bW
    have i0 : ((p : Int) == 0) = true := beq_iff_eq.2 (by omega)
    clear k2' k3' k4' h0
    go_wp2
    go_ret2
    exact HP.out
  have i0 : ((p : Int) == 0) = false := beq_eq_false_iff_ne.2 (by omega)
  have i9 : (0 : Int) < (p : Int) := by omega
  have hat : ∀ W, (sAt (.string s) (.int .i64 0)).run Tryz.prog W = .ok (.value (.int .u8 ((lB l 0).toNat : Int))) W := fun W => by
    have := run_sAt W s 0 (by rw [hp]; omega)
    rw [hl] at this; exact this
  have HRN : Hid (rn l = (if (lB l 0).toNat < 128 then ((lB l 0).toNat, 1) else if 192 ≤ (lB l 0).toNat ∧ (lB l 0).toNat < 224 then rnN l 2 ((lB l 0).toNat - 192) else if 224 ≤ (lB l 0).toNat ∧ (lB l 0).toNat < 240 then rnN l 3 ((lB l 0).toNat - 224) else if 240 ≤ (lB l 0).toNat ∧ (lB l 0).toNat < 248 then rnN l 4 ((lB l 0).toNat - 240) else (0, 0))) := by
    show rn l = _
    rw [rn, if_neg (by omega)]
  have hb8 := (lB l 0).toNat_lt
  obtain ⟨c, hc⟩ : ∃ q, (lB l 0).toNat = q := ⟨_, rfl⟩
  rw [hc] at HRN hb8
  simp only [hc] at hat
  rcases (by omega : c < 128 ∨ (128 ≤ c ∧ c < 192) ∨ (192 ≤ c ∧ c < 224) ∨ (224 ≤ c ∧ c < 240) ∨ (240 ≤ c ∧ c < 248) ∨ 248 ≤ c) with hcl | hcl | hcl | hcl | hcl | hcl
  · have f0 : (c : Int) < 128 := by omega
    have f1 : ¬ (192 : Int) ≤ (c : Int) := by omega
    have f2 : (c : Int) < 224 := by omega
    have f3 : ¬ (224 : Int) ≤ (c : Int) := by omega
    have f4 : (c : Int) < 240 := by omega
    have f5 : ¬ (240 : Int) ≤ (c : Int) := by omega
    have f6 : (c : Int) < 248 := by omega
    have HP : Hid (rnP l w (.returned (.tuple #[.int .i64 (c : Int), .int .i64 1])) X) := rnP_of (a := c) (b := 1) (by rw [HRN.out, if_pos (by omega)]) bW
    clear k2' k3' k4' HRN
    go_wp2
    go_ret2
    exact HP.out
  · have f0 : ¬ (c : Int) < 128 := by omega
    have f1 : ¬ (192 : Int) ≤ (c : Int) := by omega
    have f2 : (c : Int) < 224 := by omega
    have f3 : ¬ (224 : Int) ≤ (c : Int) := by omega
    have f4 : (c : Int) < 240 := by omega
    have f5 : ¬ (240 : Int) ≤ (c : Int) := by omega
    have f6 : (c : Int) < 248 := by omega
    have HP : Hid (rnP l w (.returned (.tuple #[.int .i64 0, .int .i64 0])) X) := rnP_of (a := 0) (b := 0) (by rw [HRN.out]; repeat rw [if_neg (by omega)]) bW
    clear k2' k3' k4' HRN
    go_wp2
    go_ret2
    exact HP.out
  · have f0 : ¬ (c : Int) < 128 := by omega
    have f1 : (192 : Int) ≤ (c : Int) := by omega
    have f2 : (c : Int) < 224 := by omega
    have f3 : ¬ (224 : Int) ≤ (c : Int) := by omega
    have f4 : (c : Int) < 240 := by omega
    have f5 : ¬ (240 : Int) ≤ (c : Int) := by omega
    have f6 : (c : Int) < 248 := by omega
    have HN : Hid (rn l = rnN l 2 (c - 192)) := by
      show _ = _
      rw [HRN.out]
      rw [if_neg (by omega), if_pos (by omega)]
    clear HRN
    by_cases hn : p < 2
    · have j0 : (p : Int) < 2 := by omega
      have HP : Hid (rnP l w (.returned (.tuple #[.int .i64 0, .int .i64 0])) X) := rnP_of (a := 0) (b := 0) (by rw [HN.out]; unfold rnN; rw [if_pos (by omega)]) bW
      clear k2' k3' k4' HN
      go_wp2
      go_ret2
      exact HP.out
    have j0 : ¬ (p : Int) < 2 := by omega
    have HM : Hid (rn l = (match cvR l (c - 192) 1 with | none => (0, 0) | some v => if okR 2 v = true then (v, 2) else (0, 0))) := by
      show _ = _
      rw [HN.out, rnN, if_neg (by omega)]
      rfl
    clear HN
    obtain ⟨v0, hv0⟩ : ∃ q, c - 192 = q := ⟨_, rfl⟩
    have hv32 : v0 < 32 := by omega
    have hvi : (c : Int) - 192 = (v0 : Int) := by omega
    rw [hv0] at HM
    clear hv0
    go_wp2_with fail
    clear hat f0 f1 f2 f3 f4 f5 f6 hcl
    go_loopw [6, 7] (fun vv iv wr => ∃ k v : Nat, (1 ≤ k ∧ k ≤ 2) ∧ vv = .int .i64 v ∧ iv = .int .i64 k ∧ v < bdR (k - 1) ∧ Hid (cvR l v0 (k - 1) = some v) ∧ wr = X) (fun _ iv _ => 2 - (intOf iv).toNat)
    case atStart => exact ⟨1, v0, by omega, by first | rfl | rw [hvi], rfl, hv32, rfl, rfl⟩
    case round =>
      obtain ⟨k, v, ⟨hk1, hk2⟩, rfl, rfl, hvb, HV, rfl⟩ := hrel
      have hbd := bdR_le (k - 1) (by omega)
      by_cases hlt : k < 2
      · have q0 : (0 : Int) ≤ (k : Int) := by omega
        have q1 : (k : Int) < 2 := by omega
        have q2 : (k : Int) < (p : Int) := by omega
        have hd8 := (lB l k).toNat_lt
        have HCV : Hid (cvR l v0 k = if isC (lB l k) = true then some (64 * v + (lB l k).toNat - 128) else none) := by
          obtain ⟨j, rfl⟩ : ∃ j, k = j + 1 := ⟨k - 1, by omega⟩
          show cvR l v0 (j + 1) = _
          rw [cvR, show cvR l v0 j = some v from HV.out]
        have HBD : Hid (bdR k = 64 * bdR (k - 1)) := by
          obtain ⟨j, rfl⟩ : ∃ j, k = j + 1 := ⟨k - 1, by omega⟩
          rfl
        have HNO : Hid (cvR l v0 k = none → rn l = (0, 0)) := fun h => by
          have h2 : cvR l v0 1 = none := by
            obtain rfl : k = 1 := by omega
            exact h
        
          rw [HM.out, h2]
        obtain ⟨d, hd⟩ : ∃ q, (lB l k).toNat = q := ⟨_, rfl⟩
        have HIC : Hid (isC (lB l k) = decide (128 ≤ d ∧ d ≤ 191)) := by show _ = _; unfold isC; rw [hd]
        rw [hd] at HCV hd8
        clear HV
        by_cases hok : 128 ≤ d ∧ d ≤ 191
        · have y0 : ¬ (d : Int) < 128 := by omega
          have y1 : ¬ (191 : Int) < (d : Int) := by omega
          obtain ⟨v1, hv1⟩ : ∃ q, 64 * v + d - 128 = q := ⟨_, rfl⟩
          have y2 : (64 : Int) * (v : Int) + (d : Int) - 128 = (v1 : Int) := by omega
          have HV2 : Hid (cvR l v0 (k + 1 - 1) = some v1) := by
            show cvR l v0 (k + 1 - 1) = _
            rw [show k + 1 - 1 = k by omega, HCV.out, HIC.out, decide_eq_true hok, if_pos rfl, hv1]
          have HB2 : Hid (v1 < bdR (k + 1 - 1)) := by show _ < _; rw [show k + 1 - 1 = k by omega, HBD.out]; omega
          clear HCV HBD HNO HIC hv1 hok
          go_wp2
          go_roundw
          case rel =>

            exact ⟨k + 1, v1, by omega, by first | rfl | go_num, by go_num, HB2.out, HV2, by trivial⟩
          case measure => simp [intOf]; omega
        · have HP : Hid (rnP l w (.returned (.tuple #[.int .i64 0, .int .i64 0])) wr) := rnP_of (a := 0) (b := 0) (HNO.out (by rw [HCV.out, HIC.out, decide_eq_false hok]; rfl)) bW
          clear HCV HBD HNO HIC
          by_cases hl8 : d < 128
          · have y0 : (d : Int) < 128 := by omega
            clear hok
            go_wp2
            go_ret2
            exact HP.out
          · have y0 : ¬ (d : Int) < 128 := by omega
            have y1 : (191 : Int) < (d : Int) := by omega
            clear hok
            go_wp2
            go_ret2
            exact HP.out
      · obtain rfl : k = 2 := by omega
        have HF : Hid (rn l = if okR 2 v = true then (v, 2) else (0, 0)) := by show _ = _; rw [HM.out, show cvR l v0 1 = some v from HV.out]
        have HOK : Hid (okR 2 v = decide (128 ≤ v ∧ v ≤ 1114111 ∧ ¬ (55296 ≤ v ∧ v ≤ 57343))) := rfl
        clear HV HM hlt
        by_cases hok : 128 ≤ v ∧ v ≤ 1114111 ∧ ¬ (55296 ≤ v ∧ v ≤ 57343)
        · have HP : Hid (rnP l w (.returned (.tuple #[.int .i64 (v : Int), .int .i64 2])) wr) := rnP_of (a := v) (b := 2) (by rw [HF.out, HOK.out, decide_eq_true hok, if_pos rfl]) bW
          have y0 : ¬ (v : Int) < 128 := by omega
          have y1 : ¬ (1114111 : Int) < (v : Int) := by omega
          by_cases hs : 55296 ≤ v
          · have y2 : (55296 : Int) ≤ (v : Int) := by omega
            have y3 : ¬ (v : Int) ≤ 57343 := by omega
            clear hok HF HOK
            go_wp2
            go_ret2
            exact HP.out
          · have y2 : ¬ (55296 : Int) ≤ (v : Int) := by omega
            clear hok HF HOK
            go_wp2
            go_ret2
            exact HP.out
        · have HP : Hid (rnP l w (.returned (.tuple #[.int .i64 0, .int .i64 0])) wr) := rnP_of (a := 0) (b := 0) (by rw [HF.out, HOK.out, decide_eq_false hok]; rfl) bW
          clear HF HOK
          by_cases ha : v < 128
          · have y0 : (v : Int) < 128 := by omega
            clear hok
            go_wp2
            go_ret2
            exact HP.out
          · have y0 : ¬ (v : Int) < 128 := by omega
            by_cases hb : 1114111 < v
            · have y1 : (1114111 : Int) < (v : Int) := by omega
              clear hok
              go_wp2
              go_ret2
              exact HP.out
            · have y1 : ¬ (1114111 : Int) < (v : Int) := by omega
              have y2 : (55296 : Int) ≤ (v : Int) := by omega
              have y3 : (v : Int) ≤ 57343 := by omega
              clear hok
              go_wp2
              go_ret2
              exact HP.out
  · have f0 : ¬ (c : Int) < 128 := by omega
    have f1 : (192 : Int) ≤ (c : Int) := by omega
    have f2 : ¬ (c : Int) < 224 := by omega
    have f3 : (224 : Int) ≤ (c : Int) := by omega
    have f4 : (c : Int) < 240 := by omega
    have f5 : ¬ (240 : Int) ≤ (c : Int) := by omega
    have f6 : (c : Int) < 248 := by omega
    have HN : Hid (rn l = rnN l 3 (c - 224)) := by
      show _ = _
      rw [HRN.out]
      rw [if_neg (by omega), if_neg (by omega), if_pos (by omega)]
    clear HRN
    by_cases hn : p < 3
    · have j0 : (p : Int) < 3 := by omega
      have HP : Hid (rnP l w (.returned (.tuple #[.int .i64 0, .int .i64 0])) X) := rnP_of (a := 0) (b := 0) (by rw [HN.out]; unfold rnN; rw [if_pos (by omega)]) bW
      clear k2' k3' k4' HN
      go_wp2
      go_ret2
      exact HP.out
    have j0 : ¬ (p : Int) < 3 := by omega
    have HM : Hid (rn l = (match cvR l (c - 224) 2 with | none => (0, 0) | some v => if okR 3 v = true then (v, 3) else (0, 0))) := by
      show _ = _
      rw [HN.out, rnN, if_neg (by omega)]
      rfl
    clear HN
    obtain ⟨v0, hv0⟩ : ∃ q, c - 224 = q := ⟨_, rfl⟩
    have hv32 : v0 < 32 := by omega
    have hvi : (c : Int) - 224 = (v0 : Int) := by omega
    rw [hv0] at HM
    clear hv0
    go_wp2_with fail
    clear hat f0 f1 f2 f3 f4 f5 f6 hcl
    go_loopw [6, 7] (fun vv iv wr => ∃ k v : Nat, (1 ≤ k ∧ k ≤ 3) ∧ vv = .int .i64 v ∧ iv = .int .i64 k ∧ v < bdR (k - 1) ∧ Hid (cvR l v0 (k - 1) = some v) ∧ wr = X) (fun _ iv _ => 3 - (intOf iv).toNat)
    case atStart => exact ⟨1, v0, by omega, by first | rfl | rw [hvi], rfl, hv32, rfl, rfl⟩
    case round =>
      obtain ⟨k, v, ⟨hk1, hk2⟩, rfl, rfl, hvb, HV, rfl⟩ := hrel
      have hbd := bdR_le (k - 1) (by omega)
      by_cases hlt : k < 3
      · have q0 : (0 : Int) ≤ (k : Int) := by omega
        have q1 : (k : Int) < 3 := by omega
        have q2 : (k : Int) < (p : Int) := by omega
        have hd8 := (lB l k).toNat_lt
        have HCV : Hid (cvR l v0 k = if isC (lB l k) = true then some (64 * v + (lB l k).toNat - 128) else none) := by
          obtain ⟨j, rfl⟩ : ∃ j, k = j + 1 := ⟨k - 1, by omega⟩
          show cvR l v0 (j + 1) = _
          rw [cvR, show cvR l v0 j = some v from HV.out]
        have HBD : Hid (bdR k = 64 * bdR (k - 1)) := by
          obtain ⟨j, rfl⟩ : ∃ j, k = j + 1 := ⟨k - 1, by omega⟩
          rfl
        have HNO : Hid (cvR l v0 k = none → rn l = (0, 0)) := fun h => by
          have h2 : cvR l v0 2 = none := by
            rcases (by omega : k = 1 ∨ k = 2) with rfl | rfl
            all_goals simp [cvR] at h ⊢
            all_goals (first | (simp only [h]; done) | simp_all)
          rw [HM.out, h2]
        obtain ⟨d, hd⟩ : ∃ q, (lB l k).toNat = q := ⟨_, rfl⟩
        have HIC : Hid (isC (lB l k) = decide (128 ≤ d ∧ d ≤ 191)) := by show _ = _; unfold isC; rw [hd]
        rw [hd] at HCV hd8
        clear HV
        by_cases hok : 128 ≤ d ∧ d ≤ 191
        · have y0 : ¬ (d : Int) < 128 := by omega
          have y1 : ¬ (191 : Int) < (d : Int) := by omega
          obtain ⟨v1, hv1⟩ : ∃ q, 64 * v + d - 128 = q := ⟨_, rfl⟩
          have y2 : (64 : Int) * (v : Int) + (d : Int) - 128 = (v1 : Int) := by omega
          have HV2 : Hid (cvR l v0 (k + 1 - 1) = some v1) := by
            show cvR l v0 (k + 1 - 1) = _
            rw [show k + 1 - 1 = k by omega, HCV.out, HIC.out, decide_eq_true hok, if_pos rfl, hv1]
          have HB2 : Hid (v1 < bdR (k + 1 - 1)) := by show _ < _; rw [show k + 1 - 1 = k by omega, HBD.out]; omega
          clear HCV HBD HNO HIC hv1 hok
          go_wp2
          go_roundw
          case rel =>

            exact ⟨k + 1, v1, by omega, by first | rfl | go_num, by go_num, HB2.out, HV2, by trivial⟩
          case measure => simp [intOf]; omega
        · have HP : Hid (rnP l w (.returned (.tuple #[.int .i64 0, .int .i64 0])) wr) := rnP_of (a := 0) (b := 0) (HNO.out (by rw [HCV.out, HIC.out, decide_eq_false hok]; rfl)) bW
          clear HCV HBD HNO HIC
          by_cases hl8 : d < 128
          · have y0 : (d : Int) < 128 := by omega
            clear hok
            go_wp2
            go_ret2
            exact HP.out
          · have y0 : ¬ (d : Int) < 128 := by omega
            have y1 : (191 : Int) < (d : Int) := by omega
            clear hok
            go_wp2
            go_ret2
            exact HP.out
      · obtain rfl : k = 3 := by omega
        have HF : Hid (rn l = if okR 3 v = true then (v, 3) else (0, 0)) := by show _ = _; rw [HM.out, show cvR l v0 2 = some v from HV.out]
        have HOK : Hid (okR 3 v = decide (2048 ≤ v ∧ v ≤ 1114111 ∧ ¬ (55296 ≤ v ∧ v ≤ 57343))) := rfl
        clear HV HM hlt
        by_cases hok : 2048 ≤ v ∧ v ≤ 1114111 ∧ ¬ (55296 ≤ v ∧ v ≤ 57343)
        · have HP : Hid (rnP l w (.returned (.tuple #[.int .i64 (v : Int), .int .i64 3])) wr) := rnP_of (a := v) (b := 3) (by rw [HF.out, HOK.out, decide_eq_true hok, if_pos rfl]) bW
          have y0 : ¬ (v : Int) < 2048 := by omega
          have y1 : ¬ (1114111 : Int) < (v : Int) := by omega
          by_cases hs : 55296 ≤ v
          · have y2 : (55296 : Int) ≤ (v : Int) := by omega
            have y3 : ¬ (v : Int) ≤ 57343 := by omega
            clear hok HF HOK
            go_wp2
            go_ret2
            exact HP.out
          · have y2 : ¬ (55296 : Int) ≤ (v : Int) := by omega
            clear hok HF HOK
            go_wp2
            go_ret2
            exact HP.out
        · have HP : Hid (rnP l w (.returned (.tuple #[.int .i64 0, .int .i64 0])) wr) := rnP_of (a := 0) (b := 0) (by rw [HF.out, HOK.out, decide_eq_false hok]; rfl) bW
          clear HF HOK
          by_cases ha : v < 2048
          · have y0 : (v : Int) < 2048 := by omega
            clear hok
            go_wp2
            go_ret2
            exact HP.out
          · have y0 : ¬ (v : Int) < 2048 := by omega
            by_cases hb : 1114111 < v
            · have y1 : (1114111 : Int) < (v : Int) := by omega
              clear hok
              go_wp2
              go_ret2
              exact HP.out
            · have y1 : ¬ (1114111 : Int) < (v : Int) := by omega
              have y2 : (55296 : Int) ≤ (v : Int) := by omega
              have y3 : (v : Int) ≤ 57343 := by omega
              clear hok
              go_wp2
              go_ret2
              exact HP.out
  · have f0 : ¬ (c : Int) < 128 := by omega
    have f1 : (192 : Int) ≤ (c : Int) := by omega
    have f2 : ¬ (c : Int) < 224 := by omega
    have f3 : (224 : Int) ≤ (c : Int) := by omega
    have f4 : ¬ (c : Int) < 240 := by omega
    have f5 : (240 : Int) ≤ (c : Int) := by omega
    have f6 : (c : Int) < 248 := by omega
    have HN : Hid (rn l = rnN l 4 (c - 240)) := by
      show _ = _
      rw [HRN.out]
      rw [if_neg (by omega), if_neg (by omega), if_neg (by omega), if_pos (by omega)]
    clear HRN
    by_cases hn : p < 4
    · have j0 : (p : Int) < 4 := by omega
      have HP : Hid (rnP l w (.returned (.tuple #[.int .i64 0, .int .i64 0])) X) := rnP_of (a := 0) (b := 0) (by rw [HN.out]; unfold rnN; rw [if_pos (by omega)]) bW
      clear k2' k3' k4' HN
      go_wp2
      go_ret2
      exact HP.out
    have j0 : ¬ (p : Int) < 4 := by omega
    have HM : Hid (rn l = (match cvR l (c - 240) 3 with | none => (0, 0) | some v => if okR 4 v = true then (v, 4) else (0, 0))) := by
      show _ = _
      rw [HN.out, rnN, if_neg (by omega)]
      rfl
    clear HN
    obtain ⟨v0, hv0⟩ : ∃ q, c - 240 = q := ⟨_, rfl⟩
    have hv32 : v0 < 32 := by omega
    have hvi : (c : Int) - 240 = (v0 : Int) := by omega
    rw [hv0] at HM
    clear hv0
    go_wp2_with fail
    clear hat f0 f1 f2 f3 f4 f5 f6 hcl
    go_loopw [6, 7] (fun vv iv wr => ∃ k v : Nat, (1 ≤ k ∧ k ≤ 4) ∧ vv = .int .i64 v ∧ iv = .int .i64 k ∧ v < bdR (k - 1) ∧ Hid (cvR l v0 (k - 1) = some v) ∧ wr = X) (fun _ iv _ => 4 - (intOf iv).toNat)
    case atStart => exact ⟨1, v0, by omega, by first | rfl | rw [hvi], rfl, hv32, rfl, rfl⟩
    case round =>
      obtain ⟨k, v, ⟨hk1, hk2⟩, rfl, rfl, hvb, HV, rfl⟩ := hrel
      have hbd := bdR_le (k - 1) (by omega)
      by_cases hlt : k < 4
      · have q0 : (0 : Int) ≤ (k : Int) := by omega
        have q1 : (k : Int) < 4 := by omega
        have q2 : (k : Int) < (p : Int) := by omega
        have hd8 := (lB l k).toNat_lt
        have HCV : Hid (cvR l v0 k = if isC (lB l k) = true then some (64 * v + (lB l k).toNat - 128) else none) := by
          obtain ⟨j, rfl⟩ : ∃ j, k = j + 1 := ⟨k - 1, by omega⟩
          show cvR l v0 (j + 1) = _
          rw [cvR, show cvR l v0 j = some v from HV.out]
        have HBD : Hid (bdR k = 64 * bdR (k - 1)) := by
          obtain ⟨j, rfl⟩ : ∃ j, k = j + 1 := ⟨k - 1, by omega⟩
          rfl
        have HNO : Hid (cvR l v0 k = none → rn l = (0, 0)) := fun h => by
          have h2 : cvR l v0 3 = none := by
            rcases (by omega : k = 1 ∨ k = 2 ∨ k = 3) with rfl | rfl | rfl
            all_goals simp [cvR] at h ⊢
            all_goals (first | (simp only [h]; done) | simp_all)
          rw [HM.out, h2]
        obtain ⟨d, hd⟩ : ∃ q, (lB l k).toNat = q := ⟨_, rfl⟩
        have HIC : Hid (isC (lB l k) = decide (128 ≤ d ∧ d ≤ 191)) := by show _ = _; unfold isC; rw [hd]
        rw [hd] at HCV hd8
        clear HV
        by_cases hok : 128 ≤ d ∧ d ≤ 191
        · have y0 : ¬ (d : Int) < 128 := by omega
          have y1 : ¬ (191 : Int) < (d : Int) := by omega
          obtain ⟨v1, hv1⟩ : ∃ q, 64 * v + d - 128 = q := ⟨_, rfl⟩
          have y2 : (64 : Int) * (v : Int) + (d : Int) - 128 = (v1 : Int) := by omega
          have HV2 : Hid (cvR l v0 (k + 1 - 1) = some v1) := by
            show cvR l v0 (k + 1 - 1) = _
            rw [show k + 1 - 1 = k by omega, HCV.out, HIC.out, decide_eq_true hok, if_pos rfl, hv1]
          have HB2 : Hid (v1 < bdR (k + 1 - 1)) := by show _ < _; rw [show k + 1 - 1 = k by omega, HBD.out]; omega
          clear HCV HBD HNO HIC hv1 hok
          go_wp2
          go_roundw
          case rel =>

            exact ⟨k + 1, v1, by omega, by first | rfl | go_num, by go_num, HB2.out, HV2, by trivial⟩
          case measure => simp [intOf]; omega
        · have HP : Hid (rnP l w (.returned (.tuple #[.int .i64 0, .int .i64 0])) wr) := rnP_of (a := 0) (b := 0) (HNO.out (by rw [HCV.out, HIC.out, decide_eq_false hok]; rfl)) bW
          clear HCV HBD HNO HIC
          by_cases hl8 : d < 128
          · have y0 : (d : Int) < 128 := by omega
            clear hok
            go_wp2
            go_ret2
            exact HP.out
          · have y0 : ¬ (d : Int) < 128 := by omega
            have y1 : (191 : Int) < (d : Int) := by omega
            clear hok
            go_wp2
            go_ret2
            exact HP.out
      · obtain rfl : k = 4 := by omega
        have HF : Hid (rn l = if okR 4 v = true then (v, 4) else (0, 0)) := by show _ = _; rw [HM.out, show cvR l v0 3 = some v from HV.out]
        have HOK : Hid (okR 4 v = decide (65536 ≤ v ∧ v ≤ 1114111 ∧ ¬ (55296 ≤ v ∧ v ≤ 57343))) := rfl
        clear HV HM hlt
        by_cases hok : 65536 ≤ v ∧ v ≤ 1114111 ∧ ¬ (55296 ≤ v ∧ v ≤ 57343)
        · have HP : Hid (rnP l w (.returned (.tuple #[.int .i64 (v : Int), .int .i64 4])) wr) := rnP_of (a := v) (b := 4) (by rw [HF.out, HOK.out, decide_eq_true hok, if_pos rfl]) bW
          have y0 : ¬ (v : Int) < 65536 := by omega
          have y1 : ¬ (1114111 : Int) < (v : Int) := by omega
          by_cases hs : 55296 ≤ v
          · have y2 : (55296 : Int) ≤ (v : Int) := by omega
            have y3 : ¬ (v : Int) ≤ 57343 := by omega
            clear hok HF HOK
            go_wp2
            go_ret2
            exact HP.out
          · have y2 : ¬ (55296 : Int) ≤ (v : Int) := by omega
            clear hok HF HOK
            go_wp2
            go_ret2
            exact HP.out
        · have HP : Hid (rnP l w (.returned (.tuple #[.int .i64 0, .int .i64 0])) wr) := rnP_of (a := 0) (b := 0) (by rw [HF.out, HOK.out, decide_eq_false hok]; rfl) bW
          clear HF HOK
          by_cases ha : v < 65536
          · have y0 : (v : Int) < 65536 := by omega
            clear hok
            go_wp2
            go_ret2
            exact HP.out
          · have y0 : ¬ (v : Int) < 65536 := by omega
            by_cases hb : 1114111 < v
            · have y1 : (1114111 : Int) < (v : Int) := by omega
              clear hok
              go_wp2
              go_ret2
              exact HP.out
            · have y1 : ¬ (1114111 : Int) < (v : Int) := by omega
              have y2 : (55296 : Int) ≤ (v : Int) := by omega
              have y3 : (v : Int) ≤ 57343 := by omega
              clear hok
              go_wp2
              go_ret2
              exact HP.out
  · have f0 : ¬ (c : Int) < 128 := by omega
    have f1 : (192 : Int) ≤ (c : Int) := by omega
    have f2 : ¬ (c : Int) < 224 := by omega
    have f3 : (224 : Int) ≤ (c : Int) := by omega
    have f4 : ¬ (c : Int) < 240 := by omega
    have f5 : (240 : Int) ≤ (c : Int) := by omega
    have f6 : ¬ (c : Int) < 248 := by omega
    have HP : Hid (rnP l w (.returned (.tuple #[.int .i64 0, .int .i64 0])) X) := rnP_of (a := 0) (b := 0) (by rw [HRN.out]; repeat rw [if_neg (by omega)]) bW
    clear k2' k3' k4' HRN
    go_wp2
    go_ret2
    exact HP.out
end Go.Proofs.YtalnbddkhojjbaaGreatDoor
namespace Go.Proofs.YtalnbddkhojjbaaGreatDoor
open Go.RowKit

theorem lS_eq {s : ByteArray} {l : List UInt8} (h : lS s = l) : s = ⟨l.toArray⟩ := lS_inj (h.trans (lS_mk l).symm)
def quoR (v : Nat) : Option Nat → List UInt8
  | some i => [92, lB qSigns i]
  | none => if v < 32 then [92, 117, 48, 48, dgC (v / 16), dgC (v % 16)] else enc v
theorem quo_R (v : Nat) : quo v = quoR v (qAt v 7 0) := by
  unfold quo
  cases qAt v 7 0 <;> rfl
theorem lS_one (s : ByteArray) (k : Nat) (h : k < s.size) : lS (s.extract k (k + 1)) = [lB (lS s) k] := by
  have hk : k < (lS s).length := by rw [lS_len]; exact h
  rw [lS_cut, show k + 1 - k = 1 by omega, List.drop_eq_getElem_cons hk]
  unfold lB
  rw [List.getElem?_eq_getElem hk]; rfl
theorem dgC_at (n : Nat) (h : n < 16) : lB [48, 49, 50, 51, 52, 53, 54, 55, 56, 57, 97, 98, 99, 100, 101, 102] n = dgC n := by
  rcases (by omega : n = 0 ∨ n = 1 ∨ n = 2 ∨ n = 3 ∨ n = 4 ∨ n = 5 ∨ n = 6 ∨ n = 7 ∨ n = 8 ∨ n = 9 ∨ n = 10 ∨ n = 11 ∨ n = 12 ∨ n = 13 ∨ n = 14 ∨ n = 15) with rfl | rfl | rfl | rfl | rfl | rfl | rfl | rfl | rfl | rfl | rfl | rfl | rfl | rfl | rfl | rfl <;> decide
end Go.Proofs.YtalnbddkhojjbaaGreatDoor
namespace Go.Proofs.YtalnbddkhojjbaaGreatDoor
open Go.RowKit

theorem enc_len (v : Nat) : (enc v).length ≤ 4 := by
  unfold enc
  (repeat' split) <;> simp
theorem quo_len (v : Nat) : (quo v).length ≤ 6 := by
  unfold quo
  have := enc_len v
  (repeat' split) <;> first | (simp; done) | omega
theorem rnN_range (l : List UInt8) (n v0 : Nat) : (rnN l n v0).1 ≤ 1114111 ∧ ((rnN l n v0).2 ≠ 0 → (rnN l n v0).2 = n ∧ n ≤ l.length) := by
  unfold rnN
  split
  · simp
  · split
    · simp
    · split
      · rename_i h
        unfold okR at h
        simp only [decide_eq_true_eq] at h
        exact ⟨h.2.1, fun _ => ⟨rfl, by omega⟩⟩
      · simp
theorem rn_range (l : List UInt8) : (rn l).1 ≤ 1114111 ∧ (rn l).2 ≤ l.length ∧ (rn l).2 ≤ 4 := by
  unfold rn
  split
  · simp
  · split
    · simp only; omega
    · split
      · obtain ⟨h1, h2⟩ := rnN_range l 2 ((lB l 0).toNat - 192)
        by_cases h : (rnN l 2 ((lB l 0).toNat - 192)).2 = 0
        · omega
        · have := h2 h; omega
      · split
        · obtain ⟨h1, h2⟩ := rnN_range l 3 ((lB l 0).toNat - 224)
          by_cases h : (rnN l 3 ((lB l 0).toNat - 224)).2 = 0
          · omega
          · have := h2 h; omega
        · split
          · obtain ⟨h1, h2⟩ := rnN_range l 4 ((lB l 0).toNat - 240)
            by_cases h : (rnN l 4 ((lB l 0).toNat - 240)).2 = 0
            · omega
            · have := h2 h; omega
          · simp
def QuP (l : List UInt8) (w : World) (e : Ending) (w' : World) : Prop := e = .returned (.tuple #[.string ⟨(quS l).toArray⟩, .int .i64 (quE l)]) ∧ Below w.heap.size w w'
end Go.Proofs.YtalnbddkhojjbaaGreatDoor
namespace Go.Proofs.YtalnbddkhojjbaaGreatDoor
open Go.RowKit

def bdH : Nat → Nat
  | 0 => 1
  | k + 1 => 16 * bdH k
theorem bdH_le (k : Nat) (h : k ≤ 4) : bdH k ≤ 65536 := by
  rcases (by omega : k = 0 ∨ k = 1 ∨ k = 2 ∨ k = 3 ∨ k = 4) with rfl | rfl | rfl | rfl | rfl <;> decide
theorem hx_none (l : List UInt8) (k : Nat) : ∀ n, k ≤ n → hx l k = none → hx l n = none := by
  intro n
  induction n with
  | zero => intro h h1; obtain rfl : k = 0 := by omega
            exact h1
  | succ n ih =>
    intro h h1
    rcases Nat.lt_or_ge k (n + 1) with h2 | h2
    · rw [hx, ih (by omega) h1]
    · obtain rfl : k = n + 1 := by omega
      exact h1
def escR (l : List UInt8) : Option Nat → List UInt8 × Nat
  | some i => ([lB escMeans i], 2)
  | none => escU l
theorem esc_R (l : List UInt8) (h : 1 < l.length) : escS l = escR l (escAt (lB l 1) 8 0) := by
  unfold escS
  rw [if_pos h]
  cases escAt (lB l 1) 8 0 <;> rfl
def escV : Option Nat → List UInt8 × Nat
  | none => ([], 0)
  | some v => if 55296 ≤ v ∧ v ≤ 57343 then ([], 0) else (enc v, 6)
theorem esc_V (l : List UInt8) (h : ¬ (l.length < 6 ∨ lB l 1 ≠ 117)) : escU l = escV (hx l 4) := by
  unfold escU
  rw [if_neg h]
  cases hx l 4 <;> rfl
set_option linter.unusedSimpArgs false in
set_option maxRecDepth 100000 in
set_option maxHeartbeats 8000000 in
theorem refEscape_any (s : ByteArray) (w : World) (h63 : s.size ≤ 9223372036854775807) : Calls Tryz.prog 119 #[.string s] w fun e w' => (∃ S, e = .returned (.tuple #[.string S, .int .i64 (((escS (lS s)).2 : Nat) : Int)]) ∧ lS S = (escS (lS s)).1) ∧ Below w.heap.size w w' := by
  have hls := lS_len s
  obtain ⟨l, hl⟩ : ∃ q, lS s = q := ⟨_, rfl⟩
  rw [hl] at hls ⊢
  obtain ⟨p, hp⟩ : ∃ q, s.size = q := ⟨_, rfl⟩
  rw [hp] at hls h63
  have HNO : Hid (∀ w', escS l = ([], 0) → Below w.heap.size w w' → (∃ S, Ending.returned (.tuple #[.string ⟨#[]⟩, .int .i64 0]) = .returned (.tuple #[.string S, .int .i64 (((escS l).2 : Nat) : Int)]) ∧ lS S = (escS l).1) ∧ Below w.heap.size w w') := fun w' h hb => ⟨⟨_, by rw [h]; rfl, by rw [h]; rfl⟩, hb⟩
  obtain ⟨b1, hb1⟩ : ∃ q, lB l 1 = q := ⟨_, rfl⟩
  obtain ⟨SG, hSG⟩ : ∃ q, ByteArray.mk #[34, 92, 47, 98, 102, 110, 114, 116] = q := ⟨_, rfl⟩
  obtain ⟨SM, hSM⟩ : ∃ q, ByteArray.mk #[34, 92, 47, 8, 12, 10, 13, 9] = q := ⟨_, rfl⟩
  have zg : SG.size = 8 := by rw [← hSG]; rfl
  have zm : SM.size = 8 := by rw [← hSM]; rfl
  have HLG : Hid (lS SG = escSigns) := by show _ = _; rw [← hSG]; rfl
  have HLM : Hid (lS SM = escMeans) := by show _ = _; rw [← hSM]; rfl
  have HSG : Hid _ := hSG
  have HSM : Hid _ := hSM
  clear hSG hSM
  go_enter Tryz.func119, Tryz.ntmps119
  go_upto_region 3 with fail
  rw [HSG.out, HSM.out]
  clear HSG HSM
  by_cases hp1 : 1 < p
  · have j1 : (1 : Int) < (p : Int) := by omega
    obtain ⟨RQ, hRQ⟩ : ∃ q, escAt b1 8 0 = q := ⟨_, rfl⟩
    have HE : Hid (escS l = escR l RQ) := by show _ = _; rw [esc_R l (by omega), hb1, hRQ]
    have HR0 : Hid (escAt b1 (8 - 0) 0 = RQ) := hRQ
    clear hRQ
    go_wp2_with fail
    go_loopw [6] (fun iv wr => ∃ k : Nat, k ≤ 8 ∧ iv = .int .i64 k ∧ Hid (escAt b1 (8 - k) k = RQ) ∧ Below w.heap.size w wr) (fun iv _ => 8 - (intOf iv).toNat)
    case atStart => exact ⟨0, by omega, rfl, HR0, Below.refl _ _⟩
    case round =>
      clear HR0
      obtain ⟨k, hk, rfl, HR, hB⟩ := hrel
      by_cases hlt : k < 8
      · have i0 : (0 : Int) ≤ (k : Int) := by omega
        have i1 : (k : Int) < 8 := by omega
        have hat1 : ∀ W, (sAt (.string s) (.int .i64 1)).run Tryz.prog W = .ok (.value (.int .u8 (b1.toNat : Int))) W := fun W => by
          have := run_sAt W s 1 (by omega)
          rw [hl, hb1] at this; exact this
        obtain ⟨r, hr⟩ : ∃ q, lB escSigns k = q := ⟨_, rfl⟩
        have hatk : ∀ W, (sAt (.string SG) (.int .i64 (k : Int))).run Tryz.prog W = .ok (.value (.int .u8 (r.toNat : Int))) W := fun W => by
          have := run_sAt W SG k (by omega)
          rw [HLG.out, hr] at this; exact this
        have HR2 : Hid ((if b1 = r then some k else escAt b1 (8 - (k + 1)) (k + 1)) = RQ) := by
          show _ = RQ
          rw [← HR.out, show 8 - k = (8 - (k + 1)) + 1 by omega, ← hr]; rfl
        clear HR hr
        by_cases he : b1 = r
        · have f0 : ((b1.toNat : Int) == (r.toNat : Int)) = true := by rw [he]; simp
          have hcut : ∀ W, (sCut (.string SM) (.int .i64 (k : Int)) (.int .i64 ((k : Int) + 1))).run Tryz.prog W = .ok (.value (.string (SM.extract k (k + 1)))) W := fun W => by
            have := run_sCut W SM k (k + 1) (by omega) (by omega)
            rw [← this]; rfl
          have HP : Hid (escS l = (lS (SM.extract k (k + 1)), 2)) := by
            have h9 := HR2.out
            rw [if_pos he] at h9
            show _ = _
            rw [HE.out, ← h9, lS_one SM k (by omega), HLM.out]; rfl
          clear HR2 he HE
          generalize SM.extract k (k + 1) = S1 at hcut HP
          go_upto_region 6 with fail
          refine wp_relies [Fx (.string s), Fx (.int .u8 (b1.toNat : Int)), Fx (.string SG), Fx (.int .i64 (k : Int)), Fx (.int .u8 (r.toNat : Int)), Fx (.bool true)] (by kernel_rfl) (by kernel_rfl) ?_ ?_ ?_
          · repeat' (first | exact all_nil | apply all_cons)
            all_goals intro v y y' hv hb
            all_goals first | exact Fx_mono _ _ _ _ hv hb
          · refine ⟨?_, ?_, ?_, ?_, ?_, ?_, trivial⟩
            all_goals
              intro ρ y9 hp ρc ρg ρf ho hd
              have o0 : ρ (.tmp 0) = .string s := ho 0 rfl
              have o4 : ρ (.tmp 4) = .string SG := ho 4 rfl
              have o6 : ρ (.tmp 6) = .int .i64 (k : Int) := ho 6 rfl
              clear ho
              simp only [depsR, depR, slotR, Fx, List.getElem?_cons_succ, List.getElem?_cons_zero, Region.binds, forall_const] at hd
              simp only [guardR]
              go_split_ands
            · go_simp
            · have hq := hat1 y9
              go_simp
            · go_simp
            · go_simp
            · have hq := hatk y9
              go_simp
            · go_simp
          · intro vs X1 hp9 hw
            simp only [owed, Fx] at hw
            obtain ⟨e0, e1, e2, e3, e4, e5, -⟩ := hw
            simp only [List.length_cons, List.length_nil, List.take_succ_cons, List.take_nil, List.drop_succ_cons, List.drop_nil, asg, List.cons_append, List.nil_append, e0, e1, e2, e3, e4, e5]
            clear e0 e1 e2 e3 e4 e5
            clear hat1 hatk
            go_wp2
            go_ret2
            exact ⟨⟨_, by rw [HP.out]; rfl, by rw [HP.out]⟩, hB.trans (hp9.mono hB.size)⟩
        · have f0 : ((b1.toNat : Int) == (r.toNat : Int)) = false := beq_eq_false_iff_ne.2 (fun e => he (UInt8.toNat_inj.1 (by omega)))
          have HR3 : Hid (escAt b1 (8 - (k + 1)) (k + 1) = RQ) := by
            have h9 := HR2.out
            rw [if_neg he] at h9; exact h9
          clear HR2 he
          go_upto_region 6 with fail
          refine wp_relies [Fx (.string s), Fx (.int .u8 (b1.toNat : Int)), Fx (.string SG), Fx (.int .i64 (k : Int)), Fx (.int .u8 (r.toNat : Int)), Fx (.bool false)] (by kernel_rfl) (by kernel_rfl) ?_ ?_ ?_
          · repeat' (first | exact all_nil | apply all_cons)
            all_goals intro v y y' hv hb
            all_goals first | exact Fx_mono _ _ _ _ hv hb
          · refine ⟨?_, ?_, ?_, ?_, ?_, ?_, trivial⟩
            all_goals
              intro ρ y9 hp ρc ρg ρf ho hd
              have o0 : ρ (.tmp 0) = .string s := ho 0 rfl
              have o4 : ρ (.tmp 4) = .string SG := ho 4 rfl
              have o6 : ρ (.tmp 6) = .int .i64 (k : Int) := ho 6 rfl
              clear ho
              simp only [depsR, depR, slotR, Fx, List.getElem?_cons_succ, List.getElem?_cons_zero, Region.binds, forall_const] at hd
              simp only [guardR]
              go_split_ands
            · go_simp
            · have hq := hat1 y9
              go_simp
            · go_simp
            · go_simp
            · have hq := hatk y9
              go_simp
            · go_simp
          · intro vs X1 hp9 hw
            simp only [owed, Fx] at hw
            obtain ⟨e0, e1, e2, e3, e4, e5, -⟩ := hw
            simp only [List.length_cons, List.length_nil, List.take_succ_cons, List.take_nil, List.drop_succ_cons, List.drop_nil, asg, List.cons_append, List.nil_append, e0, e1, e2, e3, e4, e5]
            clear e0 e1 e2 e3 e4 e5
            clear hat1 hatk
            go_wp2
            go_roundw
            case rel => first | exact ⟨k + 1, by omega, by go_num, HR3, hB.trans (hp9.mono hB.size)⟩ | ((repeat apply Exists.intro); refine ⟨⟨k + 1, by omega, ?_, HR3, hB.trans (hp9.mono hB.size)⟩, rfl⟩; go_num)
            case measure => simp [intOf]; omega
      · obtain rfl : k = 8 := by omega
        have HU : Hid (escS l = escU l) := by
          have h9 : none = RQ := HR.out
          show _ = _
          rw [HE.out, ← h9]; rfl
        clear HR HE hlt
        by_cases h6 : p < 6
        · have z0 : (p : Int) < 6 := by omega
          have HP : Hid _ := HNO.out wr (by rw [HU.out]; unfold escU; rw [if_pos (.inl (by omega))]) hB
          clear HU
          go_wp2
          go_ret2
          exact HP.out
        have z0 : ¬ (p : Int) < 6 := by omega
        have hat1 : ∀ W, (sAt (.string s) (.int .i64 1)).run Tryz.prog W = .ok (.value (.int .u8 (b1.toNat : Int))) W := fun W => by
          have := run_sAt W s 1 (by omega)
          rw [hl, hb1] at this; exact this
        by_cases hu : b1 = 117
        · have f0 : ((b1.toNat : Int) != 117) = false := by rw [hu]; rfl
          have HU2 : Hid (escS l = escV (hx l 4)) := by
            show escS l = _
            rw [HU.out, esc_V l (by rw [hb1]; rintro (h | h); omega; exact h hu)]
          clear HU hu
          go_wp2_with fail
          clear hat1 f0
          go_loopw [7, 8] (fun vv iv wz => ∃ k v : Nat, (2 ≤ k ∧ k ≤ 6) ∧ vv = .int .i64 v ∧ iv = .int .i64 k ∧ v < bdH (k - 2) ∧ Hid (hx l (k - 2) = some v) ∧ Below w.heap.size w wz) (fun _ iv _ => 6 - (intOf iv).toNat)
          case atStart => exact ⟨2, 0, by omega, rfl, rfl, by decide, rfl, hB⟩
          case round =>
            clear hB
            obtain ⟨k, v, ⟨hk1, hk2⟩, rfl, rfl, hvb, HV, hB⟩ := hrel
            have hbd := bdH_le (k - 2) (by omega)
            by_cases hlt : k < 6
            · have q0 : (0 : Int) ≤ (k : Int) := by omega
              have q1 : (k : Int) < 6 := by omega
              have q2 : (k : Int) < (p : Int) := by omega
              obtain ⟨b, hb⟩ : ∃ q, lB l k = q := ⟨_, rfl⟩
              have hD := refDigit14_any b
              have hr := hexV_range b
              have HX : Hid (hx l (k + 1 - 2) = if hexV b < 0 then none else some (16 * v + (hexV b).toNat)) := by
                show hx l (k + 1 - 2) = _
                rw [show k + 1 - 2 = (k - 2) + 1 by omega, hx, show hx l (k - 2) = some v from HV.out, show 2 + (k - 2) = k by omega, hb]
              have HBD : Hid (bdH (k + 1 - 2) = 16 * bdH (k - 2)) := by show _ = _; rw [show k + 1 - 2 = (k - 2) + 1 by omega]; rfl
              obtain ⟨d, hd⟩ : ∃ q, hexV b = q := ⟨_, rfl⟩
              simp only [hd] at hD
              rw [hd] at hr HX
              clear HV hd
              go_wp2_with fail
              refine (hD _).mono ?_
              rintro e w1 ⟨rfl, hb9⟩
              have hB1 := hB.trans (hb9.mono hB.size)
              clear hD hB hb9
              by_cases hneg : d < 0
              · have HN : Hid (hx l 4 = none) := by
                  have h0 : hx l (k + 1 - 2) = none := by rw [HX.out, if_pos hneg]
                  exact hx_none l (k + 1 - 2) 4 (by omega) h0
                have HP : Hid _ := HNO.out w1 (by rw [HU2.out, HN.out]; rfl) hB1
                clear HX HBD HN HU2
                go_wp2
                go_ret2
                exact HP.out
              · obtain ⟨m, rfl⟩ : ∃ m : Nat, d = (m : Int) := ⟨d.toNat, by omega⟩
                obtain ⟨v1, hv1⟩ : ∃ q, 16 * v + m = q := ⟨_, rfl⟩
                have y2 : (16 : Int) * (v : Int) + (m : Int) = (v1 : Int) := by omega
                have HV2 : Hid (hx l (k + 1 - 2) = some v1) := by show _ = _; rw [HX.out, if_neg hneg, Int.toNat_natCast, hv1]
                have HB2 : Hid (v1 < bdH (k + 1 - 2)) := by show _ < _; rw [HBD.out]; omega
                have wv1 : IntKind.i64.wrap (v1 : Int) = (v1 : Int) := by rw [IntKind.wrap_i64]; omega
                clear HX HBD hv1
                go_wp2
                go_roundw
                case rel => first | exact ⟨k + 1, v1, by omega, by first | rfl | go_num, by go_num, HB2.out, HV2, hB1⟩ | ((repeat apply Exists.intro); refine ⟨⟨k + 1, v1, by omega, ?_, ?_, HB2.out, HV2, hB1⟩, rfl⟩ <;> first | rfl | go_num)
                case measure => simp [intOf]; omega
            · obtain rfl : k = 6 := by omega
              have HU3 : Hid (escS l = if 55296 ≤ v ∧ v ≤ 57343 then ([], 0) else (enc v, 6)) := by show _ = _; rw [HU2.out, show hx l 4 = some v from HV.out]; rfl
              have hv16 : v < 65536 := hvb
              clear HV HU2 hvb
              by_cases hs : 55296 ≤ v ∧ v ≤ 57343
              · have y2 : (55296 : Int) ≤ (v : Int) := by omega
                have y3 : (v : Int) ≤ 57343 := by omega
                have HP : Hid _ := HNO.out wr (by rw [HU3.out, if_pos hs]) hB
                clear HU3 hs
                go_wp2
                go_ret2
                exact HP.out
              · have hE := refEnc_any v (by omega)
                have HU4 : Hid (escS l = (enc v, 6)) := by show _ = _; rw [HU3.out, if_neg hs]
                by_cases hs1 : 55296 ≤ v
                · have y2 : (55296 : Int) ≤ (v : Int) := by omega
                  have y3 : ¬ (v : Int) ≤ 57343 := by omega
                  clear HU3 hs
                  go_wp2_with fail
                  refine (hE _).mono ?_
                  rintro e w1 ⟨rfl, hb9⟩
                  have hB1 := hB.trans (hb9.mono hB.size)
                  clear hE
                  go_wp2
                  go_ret2
                  exact ⟨⟨_, by rw [HU4.out]; rfl, by rw [HU4.out, lS_mk]⟩, hB1⟩
                · have y2 : ¬ (55296 : Int) ≤ (v : Int) := by omega
                  clear HU3 hs
                  go_wp2_with fail
                  refine (hE _).mono ?_
                  rintro e w1 ⟨rfl, hb9⟩
                  have hB1 := hB.trans (hb9.mono hB.size)
                  clear hE
                  go_wp2
                  go_ret2
                  exact ⟨⟨_, by rw [HU4.out]; rfl, by rw [HU4.out, lS_mk]⟩, hB1⟩
        · have f0 : ((b1.toNat : Int) != 117) = true := bne_iff_ne.2 (fun e => hu (UInt8.toNat_inj.1 (by show b1.toNat = 117; omega)))
          have HP : Hid _ := HNO.out wr (by rw [HU.out]; unfold escU; rw [if_pos (.inr (by rw [hb1]; exact hu))]) hB
          clear HU
          go_wp2
          go_ret2
          exact HP.out
  · have j1 : ¬ (1 : Int) < (p : Int) := by omega
    have HU : Hid (escS l = escU l) := by show _ = _; unfold escS; rw [if_neg (by omega)]
    have z0 : (p : Int) < 6 := by omega
    have HP : Hid _ := HNO.out w (by rw [HU.out]; unfold escU; rw [if_pos (.inl (by omega))]) (Below.refl _ _)
    clear HU
    go_wp2_with fail
    go_loopw [6] (fun iv wr => iv = .int .i64 0 ∧ wr = w) (fun _ _ => 0)
    case atStart => exact ⟨rfl, rfl⟩
    case round =>
      obtain ⟨rfl, rfl⟩ := hrel
      go_wp2
      go_ret2
      exact HP.out
end Go.Proofs.YtalnbddkhojjbaaGreatDoor
namespace Go.Proofs.YtalnbddkhojjbaaGreatDoor
set_option linter.unusedSimpArgs false
open Go.RowKit

theorem wd_cases (n : Nat) : n < 43 ∨ n = 43 ∨ n = 44 ∨ n = 45 ∨ n = 46 ∨ n = 47 ∨ (48 ≤ n ∧ n ≤ 57) ∨ (58 ≤ n ∧ n ≤ 64) ∨ (65 ≤ n ∧ n ≤ 90) ∨ (91 ≤ n ∧ n ≤ 94) ∨ n = 95 ∨ n = 96 ∨ (97 ≤ n ∧ n ≤ 122) ∨ 123 ≤ n := by omega
set_option maxHeartbeats 2000000 in
theorem refInW_any (b : UInt8) (w : World) : Calls Tryz.prog 101 #[.int .u8 (b.toNat : Int)] w fun e w' => e = .returned (.bool (inW b)) ∧ Below w.heap.size w w' := by
  obtain ⟨R, hR⟩ : ∃ q, inW b = q := ⟨_, rfl⟩
  obtain ⟨c, hc⟩ : ∃ q, b.toNat = q := ⟨_, rfl⟩
  have HV : Hid (R = (decide (97 ≤ c ∧ c ≤ 122) || decide (65 ≤ c ∧ c ≤ 90) || decide (48 ≤ c ∧ c ≤ 57) || decide (c = 95) || decide (c = 43) || decide (c = 45) || decide (c = 46))) := by show _ = _; rw [← hR, ← hc]; rfl
  rw [hR, hc]
  clear hR hc
  go_enter Tryz.func101, Tryz.ntmps101
  rcases wd_cases c with hcl | hcl | hcl | hcl | hcl | hcl | hcl | hcl | hcl | hcl | hcl | hcl | hcl | hcl
  · have f0 : ¬ (97 : Int) ≤ (c : Int) := by omega
    have f1 : (c : Int) ≤ 122 := by omega
    have f2 : ¬ (65 : Int) ≤ (c : Int) := by omega
    have f3 : (c : Int) ≤ 90 := by omega
    have f4 : ¬ (48 : Int) ≤ (c : Int) := by omega
    have f5 : (c : Int) ≤ 57 := by omega
    have f6 : ((c : Int) == 95) = false := beq_eq_false_iff_ne.2 (by omega)
    have f7 : ((c : Int) == 43) = false := beq_eq_false_iff_ne.2 (by omega)
    have f8 : ((c : Int) == 45) = false := beq_eq_false_iff_ne.2 (by omega)
    have f9 : ((c : Int) == 46) = false := beq_eq_false_iff_ne.2 (by omega)
    have HR : Hid (R = false) := by show _ = _; rw [HV.out]; simp; omega
    clear HV
    go_wp2
    go_ret
    exact ⟨by rw [HR.out]; first | rfl | simp_all, Below.refl _ _⟩
  · have f0 : ¬ (97 : Int) ≤ (c : Int) := by omega
    have f1 : (c : Int) ≤ 122 := by omega
    have f2 : ¬ (65 : Int) ≤ (c : Int) := by omega
    have f3 : (c : Int) ≤ 90 := by omega
    have f4 : ¬ (48 : Int) ≤ (c : Int) := by omega
    have f5 : (c : Int) ≤ 57 := by omega
    have f6 : ((c : Int) == 95) = false := beq_eq_false_iff_ne.2 (by omega)
    have f7 : ((c : Int) == 43) = true := beq_iff_eq.2 (by omega)
    have f8 : ((c : Int) == 45) = false := beq_eq_false_iff_ne.2 (by omega)
    have f9 : ((c : Int) == 46) = false := beq_eq_false_iff_ne.2 (by omega)
    have HR : Hid (R = true) := by show _ = _; rw [HV.out]; simp; omega
    clear HV
    go_wp2
    go_ret
    exact ⟨by rw [HR.out]; first | rfl | simp_all, Below.refl _ _⟩
  · have f0 : ¬ (97 : Int) ≤ (c : Int) := by omega
    have f1 : (c : Int) ≤ 122 := by omega
    have f2 : ¬ (65 : Int) ≤ (c : Int) := by omega
    have f3 : (c : Int) ≤ 90 := by omega
    have f4 : ¬ (48 : Int) ≤ (c : Int) := by omega
    have f5 : (c : Int) ≤ 57 := by omega
    have f6 : ((c : Int) == 95) = false := beq_eq_false_iff_ne.2 (by omega)
    have f7 : ((c : Int) == 43) = false := beq_eq_false_iff_ne.2 (by omega)
    have f8 : ((c : Int) == 45) = false := beq_eq_false_iff_ne.2 (by omega)
    have f9 : ((c : Int) == 46) = false := beq_eq_false_iff_ne.2 (by omega)
    have HR : Hid (R = false) := by show _ = _; rw [HV.out]; simp; omega
    clear HV
    go_wp2
    go_ret
    exact ⟨by rw [HR.out]; first | rfl | simp_all, Below.refl _ _⟩
  · have f0 : ¬ (97 : Int) ≤ (c : Int) := by omega
    have f1 : (c : Int) ≤ 122 := by omega
    have f2 : ¬ (65 : Int) ≤ (c : Int) := by omega
    have f3 : (c : Int) ≤ 90 := by omega
    have f4 : ¬ (48 : Int) ≤ (c : Int) := by omega
    have f5 : (c : Int) ≤ 57 := by omega
    have f6 : ((c : Int) == 95) = false := beq_eq_false_iff_ne.2 (by omega)
    have f7 : ((c : Int) == 43) = false := beq_eq_false_iff_ne.2 (by omega)
    have f8 : ((c : Int) == 45) = true := beq_iff_eq.2 (by omega)
    have f9 : ((c : Int) == 46) = false := beq_eq_false_iff_ne.2 (by omega)
    have HR : Hid (R = true) := by show _ = _; rw [HV.out]; simp; omega
    clear HV
    go_wp2
    go_ret
    exact ⟨by rw [HR.out]; first | rfl | simp_all, Below.refl _ _⟩
  · have f0 : ¬ (97 : Int) ≤ (c : Int) := by omega
    have f1 : (c : Int) ≤ 122 := by omega
    have f2 : ¬ (65 : Int) ≤ (c : Int) := by omega
    have f3 : (c : Int) ≤ 90 := by omega
    have f4 : ¬ (48 : Int) ≤ (c : Int) := by omega
    have f5 : (c : Int) ≤ 57 := by omega
    have f6 : ((c : Int) == 95) = false := beq_eq_false_iff_ne.2 (by omega)
    have f7 : ((c : Int) == 43) = false := beq_eq_false_iff_ne.2 (by omega)
    have f8 : ((c : Int) == 45) = false := beq_eq_false_iff_ne.2 (by omega)
    have f9 : ((c : Int) == 46) = true := beq_iff_eq.2 (by omega)
    have HR : Hid (R = true) := by show _ = _; rw [HV.out]; simp; omega
    clear HV
    go_wp2
    go_ret
    exact ⟨by rw [HR.out]; first | rfl | simp_all, Below.refl _ _⟩
  · have f0 : ¬ (97 : Int) ≤ (c : Int) := by omega
    have f1 : (c : Int) ≤ 122 := by omega
    have f2 : ¬ (65 : Int) ≤ (c : Int) := by omega
    have f3 : (c : Int) ≤ 90 := by omega
    have f4 : ¬ (48 : Int) ≤ (c : Int) := by omega
    have f5 : (c : Int) ≤ 57 := by omega
    have f6 : ((c : Int) == 95) = false := beq_eq_false_iff_ne.2 (by omega)
    have f7 : ((c : Int) == 43) = false := beq_eq_false_iff_ne.2 (by omega)
    have f8 : ((c : Int) == 45) = false := beq_eq_false_iff_ne.2 (by omega)
    have f9 : ((c : Int) == 46) = false := beq_eq_false_iff_ne.2 (by omega)
    have HR : Hid (R = false) := by show _ = _; rw [HV.out]; simp; omega
    clear HV
    go_wp2
    go_ret
    exact ⟨by rw [HR.out]; first | rfl | simp_all, Below.refl _ _⟩
  · have f0 : ¬ (97 : Int) ≤ (c : Int) := by omega
    have f1 : (c : Int) ≤ 122 := by omega
    have f2 : ¬ (65 : Int) ≤ (c : Int) := by omega
    have f3 : (c : Int) ≤ 90 := by omega
    have f4 : (48 : Int) ≤ (c : Int) := by omega
    have f5 : (c : Int) ≤ 57 := by omega
    have f6 : ((c : Int) == 95) = false := beq_eq_false_iff_ne.2 (by omega)
    have f7 : ((c : Int) == 43) = false := beq_eq_false_iff_ne.2 (by omega)
    have f8 : ((c : Int) == 45) = false := beq_eq_false_iff_ne.2 (by omega)
    have f9 : ((c : Int) == 46) = false := beq_eq_false_iff_ne.2 (by omega)
    have HR : Hid (R = true) := by show _ = _; rw [HV.out]; simp; omega
    clear HV
    go_wp2
    go_ret
    exact ⟨by rw [HR.out]; first | rfl | simp_all, Below.refl _ _⟩
  · have f0 : ¬ (97 : Int) ≤ (c : Int) := by omega
    have f1 : (c : Int) ≤ 122 := by omega
    have f2 : ¬ (65 : Int) ≤ (c : Int) := by omega
    have f3 : (c : Int) ≤ 90 := by omega
    have f4 : (48 : Int) ≤ (c : Int) := by omega
    have f5 : ¬ (c : Int) ≤ 57 := by omega
    have f6 : ((c : Int) == 95) = false := beq_eq_false_iff_ne.2 (by omega)
    have f7 : ((c : Int) == 43) = false := beq_eq_false_iff_ne.2 (by omega)
    have f8 : ((c : Int) == 45) = false := beq_eq_false_iff_ne.2 (by omega)
    have f9 : ((c : Int) == 46) = false := beq_eq_false_iff_ne.2 (by omega)
    have HR : Hid (R = false) := by show _ = _; rw [HV.out]; simp; omega
    clear HV
    go_wp2
    go_ret
    exact ⟨by rw [HR.out]; first | rfl | simp_all, Below.refl _ _⟩
  · have f0 : ¬ (97 : Int) ≤ (c : Int) := by omega
    have f1 : (c : Int) ≤ 122 := by omega
    have f2 : (65 : Int) ≤ (c : Int) := by omega
    have f3 : (c : Int) ≤ 90 := by omega
    have f4 : (48 : Int) ≤ (c : Int) := by omega
    have f5 : ¬ (c : Int) ≤ 57 := by omega
    have f6 : ((c : Int) == 95) = false := beq_eq_false_iff_ne.2 (by omega)
    have f7 : ((c : Int) == 43) = false := beq_eq_false_iff_ne.2 (by omega)
    have f8 : ((c : Int) == 45) = false := beq_eq_false_iff_ne.2 (by omega)
    have f9 : ((c : Int) == 46) = false := beq_eq_false_iff_ne.2 (by omega)
    have HR : Hid (R = true) := by show _ = _; rw [HV.out]; simp; omega
    clear HV
    go_wp2
    go_ret
    exact ⟨by rw [HR.out]; first | rfl | simp_all, Below.refl _ _⟩
  · have f0 : ¬ (97 : Int) ≤ (c : Int) := by omega
    have f1 : (c : Int) ≤ 122 := by omega
    have f2 : (65 : Int) ≤ (c : Int) := by omega
    have f3 : ¬ (c : Int) ≤ 90 := by omega
    have f4 : (48 : Int) ≤ (c : Int) := by omega
    have f5 : ¬ (c : Int) ≤ 57 := by omega
    have f6 : ((c : Int) == 95) = false := beq_eq_false_iff_ne.2 (by omega)
    have f7 : ((c : Int) == 43) = false := beq_eq_false_iff_ne.2 (by omega)
    have f8 : ((c : Int) == 45) = false := beq_eq_false_iff_ne.2 (by omega)
    have f9 : ((c : Int) == 46) = false := beq_eq_false_iff_ne.2 (by omega)
    have HR : Hid (R = false) := by show _ = _; rw [HV.out]; simp; omega
    clear HV
    go_wp2
    go_ret
    exact ⟨by rw [HR.out]; first | rfl | simp_all, Below.refl _ _⟩
  · have f0 : ¬ (97 : Int) ≤ (c : Int) := by omega
    have f1 : (c : Int) ≤ 122 := by omega
    have f2 : (65 : Int) ≤ (c : Int) := by omega
    have f3 : ¬ (c : Int) ≤ 90 := by omega
    have f4 : (48 : Int) ≤ (c : Int) := by omega
    have f5 : ¬ (c : Int) ≤ 57 := by omega
    have f6 : ((c : Int) == 95) = true := beq_iff_eq.2 (by omega)
    have f7 : ((c : Int) == 43) = false := beq_eq_false_iff_ne.2 (by omega)
    have f8 : ((c : Int) == 45) = false := beq_eq_false_iff_ne.2 (by omega)
    have f9 : ((c : Int) == 46) = false := beq_eq_false_iff_ne.2 (by omega)
    have HR : Hid (R = true) := by show _ = _; rw [HV.out]; simp; omega
    clear HV
    go_wp2
    go_ret
    exact ⟨by rw [HR.out]; first | rfl | simp_all, Below.refl _ _⟩
  · have f0 : ¬ (97 : Int) ≤ (c : Int) := by omega
    have f1 : (c : Int) ≤ 122 := by omega
    have f2 : (65 : Int) ≤ (c : Int) := by omega
    have f3 : ¬ (c : Int) ≤ 90 := by omega
    have f4 : (48 : Int) ≤ (c : Int) := by omega
    have f5 : ¬ (c : Int) ≤ 57 := by omega
    have f6 : ((c : Int) == 95) = false := beq_eq_false_iff_ne.2 (by omega)
    have f7 : ((c : Int) == 43) = false := beq_eq_false_iff_ne.2 (by omega)
    have f8 : ((c : Int) == 45) = false := beq_eq_false_iff_ne.2 (by omega)
    have f9 : ((c : Int) == 46) = false := beq_eq_false_iff_ne.2 (by omega)
    have HR : Hid (R = false) := by show _ = _; rw [HV.out]; simp; omega
    clear HV
    go_wp2
    go_ret
    exact ⟨by rw [HR.out]; first | rfl | simp_all, Below.refl _ _⟩
  · have f0 : (97 : Int) ≤ (c : Int) := by omega
    have f1 : (c : Int) ≤ 122 := by omega
    have f2 : (65 : Int) ≤ (c : Int) := by omega
    have f3 : ¬ (c : Int) ≤ 90 := by omega
    have f4 : (48 : Int) ≤ (c : Int) := by omega
    have f5 : ¬ (c : Int) ≤ 57 := by omega
    have f6 : ((c : Int) == 95) = false := beq_eq_false_iff_ne.2 (by omega)
    have f7 : ((c : Int) == 43) = false := beq_eq_false_iff_ne.2 (by omega)
    have f8 : ((c : Int) == 45) = false := beq_eq_false_iff_ne.2 (by omega)
    have f9 : ((c : Int) == 46) = false := beq_eq_false_iff_ne.2 (by omega)
    have HR : Hid (R = true) := by show _ = _; rw [HV.out]; simp; omega
    clear HV
    go_wp2
    go_ret
    exact ⟨by rw [HR.out]; first | rfl | simp_all, Below.refl _ _⟩
  · have f0 : (97 : Int) ≤ (c : Int) := by omega
    have f1 : ¬ (c : Int) ≤ 122 := by omega
    have f2 : (65 : Int) ≤ (c : Int) := by omega
    have f3 : ¬ (c : Int) ≤ 90 := by omega
    have f4 : (48 : Int) ≤ (c : Int) := by omega
    have f5 : ¬ (c : Int) ≤ 57 := by omega
    have f6 : ((c : Int) == 95) = false := beq_eq_false_iff_ne.2 (by omega)
    have f7 : ((c : Int) == 43) = false := beq_eq_false_iff_ne.2 (by omega)
    have f8 : ((c : Int) == 45) = false := beq_eq_false_iff_ne.2 (by omega)
    have f9 : ((c : Int) == 46) = false := beq_eq_false_iff_ne.2 (by omega)
    have HR : Hid (R = false) := by show _ = _; rw [HV.out]; simp; omega
    clear HV
    go_wp2
    go_ret
    exact ⟨by rw [HR.out]; first | rfl | simp_all, Below.refl _ _⟩
def bdN : Nat → Nat
  | 0 => 1
  | k + 1 => 10 * bdN k
theorem bdN_le : ∀ k, k ≤ 18 → bdN k ≤ 1000000000000000000
  | 0, _ => by decide
  | 1, _ => by decide
  | 2, _ => by decide
  | 3, _ => by decide
  | 4, _ => by decide
  | 5, _ => by decide
  | 6, _ => by decide
  | 7, _ => by decide
  | 8, _ => by decide
  | 9, _ => by decide
  | 10, _ => by decide
  | 11, _ => by decide
  | 12, _ => by decide
  | 13, _ => by decide
  | 14, _ => by decide
  | 15, _ => by decide
  | 16, _ => by decide
  | 17, _ => by decide
  | 18, _ => by decide
  | k + 19, h => by omega
theorem nmV_none (l : List UInt8) (k : Nat) : ∀ n, k ≤ n → nmV l k = none → nmV l n = none := by
  intro n
  induction n with
  | zero => intro h h1; obtain rfl : k = 0 := by omega
            exact h1
  | succ n ih =>
    intro h h1
    rcases Nat.lt_or_ge k (n + 1) with h2 | h2
    · rw [nmV, ih (by omega) h1]
    · obtain rfl : k = n + 1 := by omega
      exact h1
def numV : Option Nat → Int
  | none => -1
  | some v => if 9223372036854775807 < v then -1 else (v : Int)
theorem num_V (l : List UInt8) (h : ¬ (l.length = 0 ∨ 19 < l.length ∨ (1 < l.length ∧ lB l 0 = 48))) : numW l = numV (nmV l l.length) := by
  unfold numW
  rw [if_neg h]
  cases nmV l l.length <;> rfl
set_option maxRecDepth 100000 in
set_option maxHeartbeats 4000000 in
theorem refNum_any (s : ByteArray) (w : World) (h63 : s.size ≤ 9223372036854775807) : Calls Tryz.prog 102 #[.string s] w fun e w' => e = .returned (.int .i64 (numW (lS s))) ∧ Below w.heap.size w w' := by
  have hls := lS_len s
  obtain ⟨l, hl⟩ : ∃ q, lS s = q := ⟨_, rfl⟩
  rw [hl] at hls ⊢
  obtain ⟨p, hp⟩ : ∃ q, s.size = q := ⟨_, rfl⟩
  rw [hp] at hls h63
  obtain ⟨R, hR⟩ : ∃ q, numW l = q := ⟨_, rfl⟩
  have HR : Hid (numW l = R) := hR
  rw [hR]
  clear hR
  go_enter Tryz.func102, Tryz.ntmps102
  by_cases h0 : p = 0
  · have i0 : ((p : Int) == 0) = true := beq_iff_eq.2 (by omega)
    have HP : Hid (R = -1) := by show _ = _; rw [← HR.out]; unfold numW; rw [if_pos (.inl (by omega))]
    clear h0
    go_wp2
    go_ret
    exact ⟨by rw [HP.out]; rfl, Below.refl _ _⟩
  have i0 : ((p : Int) == 0) = false := beq_eq_false_iff_ne.2 (by omega)
  by_cases h19 : 19 < p
  · have i1 : (19 : Int) < (p : Int) := by omega
    have HP : Hid (R = -1) := by show _ = _; rw [← HR.out]; unfold numW; rw [if_pos (.inr (.inl (by omega)))]
    go_wp2
    go_ret
    exact ⟨by rw [HP.out]; rfl, Below.refl _ _⟩
  have i1 : ¬ (19 : Int) < (p : Int) := by omega
  have i9 : (0 : Int) < (p : Int) := by omega
  obtain ⟨b0, hb0⟩ : ∃ q, lB l 0 = q := ⟨_, rfl⟩
  have hat : ∀ W, (sAt (.string s) (.int .i64 0)).run Tryz.prog W = .ok (.value (.int .u8 (b0.toNat : Int))) W := fun W => by
    have := run_sAt W s 0 (by rw [hp]; omega)
    rw [hl, hb0] at this; exact this
  have MAIN : (1 < p → ¬ b0 = 48) → Hid (R = numV (nmV l p)) := fun h => by
    show R = _
    rw [← HR.out, num_V l (by rw [hb0]; rintro (h1 | h1 | h1); omega; omega; exact h (by omega) h1.2), hls]
  by_cases h1 : 1 < p
  · have i2 : (1 : Int) < (p : Int) := by omega
    by_cases h48 : b0 = 48
    · have f0 : ((b0.toNat : Int) == 48) = true := by rw [h48]; rfl
      have HP : Hid (R = -1) := by show _ = _; rw [← HR.out]; unfold numW; rw [if_pos (.inr (.inr ⟨by omega, by rw [hb0]; exact h48⟩))]
      clear MAIN h48
      go_wp2
      go_ret
      exact ⟨by rw [HP.out]; rfl, Below.refl _ _⟩
    · have f0 : ((b0.toNat : Int) == 48) = false := beq_eq_false_iff_ne.2 (fun e => h48 (UInt8.toNat_inj.1 (by show b0.toNat = 48; omega)))
      have HM := MAIN (fun _ => h48)
      clear MAIN h48
      go_wp2_with fail
      clear hat
      go_loopw [3, 4] (fun vv iv wr => ∃ k v : Nat, k ≤ p ∧ vv = .int .u64 v ∧ iv = .int .i64 k ∧ v < bdN k ∧ Hid (nmV l k = some v) ∧ wr = w) (fun _ iv _ => p - (intOf iv).toNat)
      case atStart => exact ⟨0, 0, by omega, rfl, rfl, by decide, rfl, rfl⟩
      case round =>
        obtain ⟨k, v, hk, rfl, rfl, hvb, HV, rfl⟩ := hrel
        by_cases hlt : k < p
        · have q0 : (0 : Int) ≤ (k : Int) := by omega
          have q1 : (k : Int) < (p : Int) := by omega
          have hbd := bdN_le k (by omega)
          have hd8 := (lB l k).toNat_lt
          have HX : Hid (nmV l (k + 1) = if (lB l k).toNat < 48 ∨ 57 < (lB l k).toNat then none else some (10 * v + (lB l k).toNat - 48)) := by
            show nmV l (k + 1) = _
            rw [nmV, show nmV l k = some v from HV.out]
          have HBD : Hid (bdN (k + 1) = 10 * bdN k) := rfl
          obtain ⟨d, hd⟩ : ∃ q, (lB l k).toNat = q := ⟨_, rfl⟩
          rw [hd] at HX hd8
          clear HV
          by_cases hok : d < 48 ∨ 57 < d
          · have HP : Hid (R = -1) := by
              show _ = _
              rw [HM.out, nmV_none l (k + 1) p (by omega) (by rw [HX.out, if_pos hok])]; rfl
            clear HX HBD HM
            by_cases hl4 : d < 48
            · have y0 : (d : Int) < 48 := by omega
              clear hok
              go_wp2
              go_ret
              exact ⟨by rw [HP.out]; rfl, Below.refl _ _⟩
            · have y0 : ¬ (d : Int) < 48 := by omega
              have y1 : (57 : Int) < (d : Int) := by omega
              clear hok
              go_wp2
              go_ret
              exact ⟨by rw [HP.out]; rfl, Below.refl _ _⟩
          · have y0 : ¬ (d : Int) < 48 := by omega
            have y1 : ¬ (57 : Int) < (d : Int) := by omega
            obtain ⟨v1, hv1⟩ : ∃ q, 10 * v + d - 48 = q := ⟨_, rfl⟩
            have HV2 : Hid (nmV l (k + 1) = some v1) := by show _ = _; rw [HX.out, if_neg hok, hv1]
            have HB2 : Hid (v1 < bdN (k + 1)) := by show _ < _; rw [HBD.out]; omega
            have y2 : (10 : Int) * (v : Int) + (d : Int) - 48 = (v1 : Int) := by omega
            clear HX HBD hv1 hok
            go_wp2
            go_roundw
            case rel => first | exact ⟨k + 1, v1, by omega, by first | rfl | go_num, by go_num, HB2.out, HV2, by trivial⟩ | ((repeat apply Exists.intro); refine ⟨⟨k + 1, v1, by omega, ?_, ?_, HB2.out, HV2, by trivial⟩, rfl⟩ <;> first | rfl | go_num)
            case measure => simp [intOf]; omega
        · obtain rfl : k = p := by omega
          have hlt' : ¬ (k : Int) < (k : Int) := by omega
          have HF : Hid (R = if 9223372036854775807 < v then -1 else (v : Int)) := by show _ = _; rw [HM.out, show nmV l k = some v from HV.out]; rfl
          clear HV HM
          by_cases hbig : 9223372036854775807 < v
          · have y0 : (9223372036854775807 : Int) < (v : Int) := by omega
            have HP : Hid (R = -1) := by show _ = _; rw [HF.out, if_pos hbig]
            clear HF
            go_wp2
            go_ret
            exact ⟨by rw [HP.out]; rfl, Below.refl _ _⟩
          · have y0 : ¬ (9223372036854775807 : Int) < (v : Int) := by omega
            have HP : Hid (R = (v : Int)) := by show _ = _; rw [HF.out, if_neg hbig]
            clear HF
            go_wp2
            go_ret
            exact ⟨by rw [HP.out]; rfl, Below.refl _ _⟩
  · have i2 : ¬ (1 : Int) < (p : Int) := by omega
    have HM := MAIN (fun h => absurd h h1)
    clear MAIN
    go_wp2_with fail
    clear hat
    go_loopw [3, 4] (fun vv iv wr => ∃ k v : Nat, k ≤ p ∧ vv = .int .u64 v ∧ iv = .int .i64 k ∧ v < bdN k ∧ Hid (nmV l k = some v) ∧ wr = w) (fun _ iv _ => p - (intOf iv).toNat)
    case atStart => exact ⟨0, 0, by omega, rfl, rfl, by decide, rfl, rfl⟩
    case round =>
      obtain ⟨k, v, hk, rfl, rfl, hvb, HV, rfl⟩ := hrel
      by_cases hlt : k < p
      · have q0 : (0 : Int) ≤ (k : Int) := by omega
        have q1 : (k : Int) < (p : Int) := by omega
        have hbd := bdN_le k (by omega)
        have hd8 := (lB l k).toNat_lt
        have HX : Hid (nmV l (k + 1) = if (lB l k).toNat < 48 ∨ 57 < (lB l k).toNat then none else some (10 * v + (lB l k).toNat - 48)) := by
          show nmV l (k + 1) = _
          rw [nmV, show nmV l k = some v from HV.out]
        have HBD : Hid (bdN (k + 1) = 10 * bdN k) := rfl
        obtain ⟨d, hd⟩ : ∃ q, (lB l k).toNat = q := ⟨_, rfl⟩
        rw [hd] at HX hd8
        clear HV
        by_cases hok : d < 48 ∨ 57 < d
        · have HP : Hid (R = -1) := by
            show _ = _
            rw [HM.out, nmV_none l (k + 1) p (by omega) (by rw [HX.out, if_pos hok])]; rfl
          clear HX HBD HM
          by_cases hl4 : d < 48
          · have y0 : (d : Int) < 48 := by omega
            clear hok
            go_wp2
            go_ret
            exact ⟨by rw [HP.out]; rfl, Below.refl _ _⟩
          · have y0 : ¬ (d : Int) < 48 := by omega
            have y1 : (57 : Int) < (d : Int) := by omega
            clear hok
            go_wp2
            go_ret
            exact ⟨by rw [HP.out]; rfl, Below.refl _ _⟩
        · have y0 : ¬ (d : Int) < 48 := by omega
          have y1 : ¬ (57 : Int) < (d : Int) := by omega
          obtain ⟨v1, hv1⟩ : ∃ q, 10 * v + d - 48 = q := ⟨_, rfl⟩
          have HV2 : Hid (nmV l (k + 1) = some v1) := by show _ = _; rw [HX.out, if_neg hok, hv1]
          have HB2 : Hid (v1 < bdN (k + 1)) := by show _ < _; rw [HBD.out]; omega
          have y2 : (10 : Int) * (v : Int) + (d : Int) - 48 = (v1 : Int) := by omega
          clear HX HBD hv1 hok
          go_wp2
          go_roundw
          case rel => first | exact ⟨k + 1, v1, by omega, by first | rfl | go_num, by go_num, HB2.out, HV2, by trivial⟩ | ((repeat apply Exists.intro); refine ⟨⟨k + 1, v1, by omega, ?_, ?_, HB2.out, HV2, by trivial⟩, rfl⟩ <;> first | rfl | go_num)
          case measure => simp [intOf]; omega
      · obtain rfl : k = p := by omega
        have hlt' : ¬ (k : Int) < (k : Int) := by omega
        have HF : Hid (R = if 9223372036854775807 < v then -1 else (v : Int)) := by show _ = _; rw [HM.out, show nmV l k = some v from HV.out]; rfl
        clear HV HM
        by_cases hbig : 9223372036854775807 < v
        · have y0 : (9223372036854775807 : Int) < (v : Int) := by omega
          have HP : Hid (R = -1) := by show _ = _; rw [HF.out, if_pos hbig]
          clear HF
          go_wp2
          go_ret
          exact ⟨by rw [HP.out]; rfl, Below.refl _ _⟩
        · have y0 : ¬ (9223372036854775807 : Int) < (v : Int) := by omega
          have HP : Hid (R = (v : Int)) := by show _ = _; rw [HF.out, if_neg hbig]
          clear HF
          go_wp2
          go_ret
          exact ⟨by rw [HP.out]; rfl, Below.refl _ _⟩
end Go.Proofs.YtalnbddkhojjbaaGreatDoor
namespace Go.Proofs.YtalnbddkhojjbaaGreatDoor
open Go.RowKit

theorem lB_drop (l : List UInt8) (k : Nat) : lB (l.drop k) 0 = lB l k := by unfold lB; rw [List.getElem?_drop]; rfl
theorem escU_range (l : List UInt8) : (escU l).2 ≤ l.length ∧ (escU l).1.length ≤ (escU l).2 := by
  unfold escU
  split
  · simp
  · rename_i h
    split
    · simp
    · rename_i v _
      split
      · simp
      · have := enc_len v
        simp only
        omega
theorem esc_range (l : List UInt8) : (escS l).2 ≤ l.length ∧ (escS l).1.length ≤ (escS l).2 := by
  unfold escS
  split
  · split
    · simp; omega
    · exact escU_range l
  · exact escU_range l
def TxP (r : List UInt8 × Nat) (w : World) (e : Ending) (w' : World) : Prop := (∃ S, e = .returned (.tuple #[.string S, .int .i64 ((r.2 : Nat) : Int)]) ∧ lS S = r.1) ∧ Below w.heap.size w w'
set_option linter.unusedSimpArgs false in
set_option maxRecDepth 100000 in
set_option maxHeartbeats 8000000 in
theorem refText_any (s : ByteArray) (w : World) (h47 : s.size ≤ 140737488355328) : Calls Tryz.prog 100 #[.string s] w fun e w' => TxP (txt (lS s) (lS s).length 1 []) w e w' := by
  have hls := lS_len s
  have hrun := fun k (hk : k ≤ s.size) W => refRune_any (s.extract k s.size) W (by rw [← lS_len, lS_cut, List.length_take, List.length_drop]; omega)
  have hesc := fun k (hk : k ≤ s.size) W => refEscape_any (s.extract k s.size) W (by rw [← lS_len, lS_cut, List.length_take, List.length_drop]; omega)
  simp only [lS_cut] at hrun hesc
  have hpc := fun k n => lS_cut s k (k + n)
  obtain ⟨l, hl⟩ : ∃ q, lS s = q := ⟨_, rfl⟩
  rw [hl] at hls ⊢
  simp only [hl] at hrun hesc hpc
  obtain ⟨p, hp⟩ : ∃ q, s.size = q := ⟨_, rfl⟩
  rw [hp] at hls h47
  simp only [hp] at hrun hesc
  rw [hls]
  obtain ⟨RT, hRT⟩ : ∃ q, txt l p 1 [] = q := ⟨_, rfl⟩
  have H0 : Hid (∃ f, p ≤ f + 1 ∧ txt l f 1 (lS ⟨#[]⟩) = RT) := ⟨p, by omega, hRT⟩
  rw [hRT]
  have HNO : Hid (∀ w', RT = ([], 0) → Below w.heap.size w w' → TxP RT w (.returned (.tuple #[.string ⟨#[]⟩, .int .i64 0])) w') := fun w' h hb => ⟨⟨_, by rw [h]; rfl, by rw [h]; rfl⟩, hb⟩
  clear hRT
  go_enter Tryz.func100, Tryz.ntmps100
  go_wp2_with fail
  go_loopw [4, 5] (fun ov iv wr => ∃ (k : Nat) (S : ByteArray), (1 ≤ k ∧ k ≤ p + 1) ∧ ov = .string S ∧ iv = .int .i64 k ∧ S.size ≤ k ∧ Hid (∃ f, p ≤ f + k ∧ txt l f k (lS S) = RT) ∧ Below w.heap.size w wr) (fun _ iv _ => p + 1 - (intOf iv).toNat)
  case atStart => exact ⟨1, ⟨#[]⟩, by omega, rfl, rfl, by show 0 ≤ 1; omega, H0, Below.refl _ _⟩
  case round =>
    clear H0
    obtain ⟨k, S, ⟨hk1, hk2⟩, rfl, rfl, hSz, HI, hB⟩ := hrel
    obtain ⟨f, hf, hF⟩ := HI.out
    clear HI
    by_cases hlt : k < p
    · have i0 : (0 : Int) ≤ (k : Int) := by omega
      have i1 : (k : Int) < (p : Int) := by omega
      obtain ⟨f', rfl⟩ : ∃ f', f = f' + 1 := ⟨f - 1, by omega⟩
      rw [txt, if_pos (by omega)] at hF
      have htk : (l.drop k).take (p - k) = l.drop k := List.take_of_length_le (by rw [List.length_drop]; omega)
      have hcut : ∀ W, (sCut1 (.string s) (.int .i64 (k : Int))).run Tryz.prog W = .ok (.value (.string (s.extract k p))) W := fun W => by
        have := run_sCut1 W s k (by omega)
        rw [hp] at this; exact this
      have hPd : piece (l.drop k) = (if lB l k = 92 then escS (l.drop k) else if (rn (l.drop k)).1 < 32 then ((l.drop k).take (rn (l.drop k)).2, 0) else ((l.drop k).take (rn (l.drop k)).2, (rn (l.drop k)).2)) := by unfold piece; rw [lB_drop]
      obtain ⟨b, hb⟩ : ∃ q, lB l k = q := ⟨_, rfl⟩
      have hbk : ∀ W, (sAt (.string s) (.int .i64 (k : Int))).run Tryz.prog W = .ok (.value (.int .u8 (b.toNat : Int))) W := fun W => by
        have := run_sAt W s k (by rw [hp]; omega)
        rw [hl, hb] at this; exact this
      rw [hb] at hF hPd
      by_cases h34 : b = 34
      · have f0 : ((b.toNat : Int) == 34) = true := by rw [h34]; rfl
        rw [if_pos h34] at hF
        have HP : Hid (TxP RT w (.returned (.tuple #[.string S, .int .i64 ((k : Int) + 1)])) wr) := ⟨⟨S, by rw [← hF]; rfl, by rw [← hF]⟩, hB⟩
        clear hF hPd hrun hesc hpc hcut htk h34
        go_wp2
        go_ret2
        exact HP.out
      · have f0 : ((b.toNat : Int) == 34) = false := beq_eq_false_iff_ne.2 (fun e => h34 (UInt8.toNat_inj.1 (by show b.toNat = 34; omega)))
        rw [if_neg h34] at hF
        by_cases h92 : b = 92
        · have f1 : ((b.toNat : Int) == 92) = true := by rw [h92]; rfl
          rw [if_pos h92] at hPd
          have he := hesc k (by omega)
          simp only [htk] at he
          obtain ⟨r1, r2⟩ := esc_range (l.drop k)
          rw [List.length_drop, hls] at r1
          rw [hPd] at hF
          obtain ⟨n, hn⟩ : ∃ q, (escS (l.drop k)).2 = q := ⟨_, rfl⟩
          obtain ⟨PL, hPL⟩ : ∃ q, (escS (l.drop k)).1 = q := ⟨_, rfl⟩
          rw [hn, hPL] at hF r2
          rw [hn] at r1
          simp only [hn, hPL] at he
          generalize s.extract k p = SK at he hcut
          have HF0 : Hid _ := hF
          clear hPd hrun hesc hpc htk hn hPL hF h34 h92
          go_wp2_with fail
          refine (he _).mono ?_
          rintro e w2 ⟨⟨Q, rfl, hQ⟩, hb9⟩
          have hB2 := hB.trans (hb9.mono hB.size)
          have hQz : Q.size ≤ n := by rw [← lS_len, hQ]; exact r2
          have hF := HF0.out
          rw [← hQ] at hF
          clear he hcut hB hb9 HF0 hQ hbk
          by_cases hn0 : n = 0
          · have f2 : ((n : Int) == 0) = true := beq_iff_eq.2 (by omega)
            rw [if_pos hn0] at hF
            have HP : Hid _ := HNO.out w2 hF.symm hB2
            clear hF hB2 hn0
            go_wp2
            go_ret2
            exact HP.out
          · have f2 : ((n : Int) == 0) = false := beq_eq_false_iff_ne.2 (by omega)
            rw [if_neg hn0] at hF
            have HF : Hid _ := hF
            clear hF
            have hns : ¬ 9223372036854775807 < S.size + Q.size := by omega
            have HN : Hid (∃ f, p ≤ f + (k + n) ∧ txt l f (k + n) (lS (S ++ Q)) = RT) := ⟨f', by omega, by rw [lS_app]; exact HF.out⟩
            have HSZ : Hid ((S ++ Q).size ≤ k + n) := by show _ ≤ _; rw [ByteArray.size_append]; omega
            have hkn : IntKind.i64.wrap ((k : Int) + (n : Int)) = (k : Int) + (n : Int) := by rw [IntKind.wrap_i64]; omega
            clear HF
            go_wp2
            go_roundw
            case rel => first | exact ⟨k + n, S ++ Q, by omega, rfl, by go_num, HSZ.out, HN, hB2⟩ | ((repeat apply Exists.intro); refine ⟨⟨k + n, S ++ Q, by omega, rfl, ?_, HSZ.out, HN, hB2⟩, rfl⟩; go_num)
            case measure => simp [intOf]; omega
        · have f1 : ((b.toNat : Int) == 92) = false := beq_eq_false_iff_ne.2 (fun e => h92 (UInt8.toNat_inj.1 (by show b.toNat = 92; omega)))
          rw [if_neg h92] at hPd
          have hr := hrun k (by omega)
          simp only [htk] at hr
          unfold rnP at hr
          obtain ⟨r1, r2, r3⟩ := rn_range (l.drop k)
          rw [List.length_drop, hls] at r2
          obtain ⟨v, hv⟩ : ∃ q, (rn (l.drop k)).1 = q := ⟨_, rfl⟩
          obtain ⟨n, hn⟩ : ∃ q, (rn (l.drop k)).2 = q := ⟨_, rfl⟩
          rw [hv] at r1 hPd
          rw [hn] at r2 r3 hPd
          simp only [hv, hn] at hr
          have hcut2 : ∀ W, (sCut (.string s) (.int .i64 (k : Int)) (.int .i64 ((k : Int) + (n : Int)))).run Tryz.prog W = .ok (.value (.string (s.extract k (k + n)))) W := fun W => by
            have := run_sCut W s k (k + n) (by omega) (by rw [hp]; omega)
            rw [← this]; rfl
          have hQ : lS (s.extract k (k + n)) = (l.drop k).take n := by rw [hpc, show k + n - k = n by omega]
          have hQz : (s.extract k (k + n)).size ≤ n := by rw [← lS_len, hQ, List.length_take]; omega
          rw [hPd, ← hQ] at hF
          have hkn0 : IntKind.i64.wrap ((k : Int) + (n : Int)) = (k : Int) + (n : Int) := by rw [IntKind.wrap_i64]; omega
          generalize s.extract k p = SK at hr hcut
          generalize s.extract k (k + n) = Q at hcut2 hQz hF
          have HF0 : Hid _ := hF
          clear hPd hrun hesc hpc htk hv hn hQ hF h34 h92
          go_wp2_with fail
          refine (hr _).mono ?_
          rintro e w2 ⟨rfl, hb9⟩
          have hB2 := hB.trans (hb9.mono hB.size)
          have hF := HF0.out
          clear hr hcut hB hb9 HF0 hbk
          by_cases h32 : v < 32
          · have f3 : (v : Int) < 32 := by omega
            rw [if_pos h32, if_pos rfl] at hF
            have HP : Hid _ := HNO.out w2 hF.symm hB2
            clear hF hB2 h32
            go_wp2
            go_ret2
            exact HP.out
          · have f3 : ¬ (v : Int) < 32 := by omega
            rw [if_neg h32] at hF
            by_cases hn0 : n = 0
            · have f2 : ((n : Int) == 0) = true := beq_iff_eq.2 (by omega)
              rw [if_pos hn0] at hF
              have HP : Hid _ := HNO.out w2 hF.symm hB2
              clear hF hB2 hn0 h32
              go_wp2
              go_ret2
              exact HP.out
            · have f2 : ((n : Int) == 0) = false := beq_eq_false_iff_ne.2 (by omega)
              rw [if_neg hn0] at hF
              have HF : Hid _ := hF
              clear hF h32 hkn0
              have hns : ¬ 9223372036854775807 < S.size + Q.size := by omega
              have HN : Hid (∃ f, p ≤ f + (k + n) ∧ txt l f (k + n) (lS (S ++ Q)) = RT) := ⟨f', by omega, by rw [lS_app]; exact HF.out⟩
              have HSZ : Hid ((S ++ Q).size ≤ k + n) := by show _ ≤ _; rw [ByteArray.size_append]; omega
              have hkn : IntKind.i64.wrap ((k : Int) + (n : Int)) = (k : Int) + (n : Int) := by rw [IntKind.wrap_i64]; omega
              clear HF
              go_wp2
              go_roundw
              case rel => first | exact ⟨k + n, S ++ Q, by omega, rfl, by go_num, HSZ.out, HN, hB2⟩ | ((repeat apply Exists.intro); refine ⟨⟨k + n, S ++ Q, by omega, rfl, ?_, HSZ.out, HN, hB2⟩, rfl⟩; go_num)
              case measure => simp [intOf]; omega
    · have i1 : ¬ (k : Int) < (p : Int) := by omega
      have hF2 : RT = ([], 0) := by
        rw [← hF]
        cases f with
        | zero => rfl
        | succ f => rw [txt, if_neg (by omega)]
      have HP : Hid _ := HNO.out wr hF2 hB
      clear hF hF2 hrun hesc hpc
      go_wp2
      go_ret2
      exact HP.out
end Go.Proofs.YtalnbddkhojjbaaGreatDoor
namespace Go.Proofs.YtalnbddkhojjbaaGreatDoor
open Go.RowKit

def tkA (k a n : Int) (S : ByteArray) : Array Value := #[.int .i64 k, .int .i64 a, .int .i64 n, .string S]
@[go_sem] theorem tkA_size (k a n : Int) (S : ByteArray) : (tkA k a n S).size = 4 := rfl
@[go_sem] theorem tk_one (k a n : Int) (S : ByteArray) : OneC #[.int .i64 k, .int .i64 a, .int .i64 n, .string S] = true := by simp [OneC, Value.oneCell']
section
variable (ρ : Operand → Value) (dst : Option Tmp) (ty : TypeId) (pos : String) (after : Array Edge) (guard : Option (Nat × Bool))
@[go_sem ↓] theorem execOp_store_tk (x y : Operand) : execOp ρ { dst, op := .store 140 x y, type := ty, pos, after, guard } = bigStore 140 (ρ x) (ρ y) := rfl
@[go_sem ↓] theorem execOp_alloc_tk : execOp ρ { dst, op := .alloc 140, type := ty, pos, after, guard } = bigAlloc 140 := rfl
end
theorem info_tk : (Tryz.prog.info? 140).map (fun i => (i.zero, i.size)) = some (some (.agg (tkA 0 0 0 ⟨#[]⟩)), 4) := by kernel_rfl
theorem sizeT_tk : (Tryz.prog.info? 140).map (·.size) = some 4 := (zero_of_info info_tk).2
@[go_sem] theorem run_store_tk (w : World) (g : Nat) (c : Array Value) (h : rowL w g = true) (hs : (rowAt w g).size = 4) (hc : c.size = 4) (h1 : OneC c = true) : (bigStore 140 (.pointer (some ⟨g, 0, none⟩)) (.agg c)).run Tryz.prog w = .ok .skip (w.setRow g c) := by
  rw [run_bigStore 140 4 sizeT_tk w g 0 c h hc (by omega) h1, layC_all _ _ (by omega)]
@[go_sem] theorem run_alloc_tk (w : World) : (bigAlloc 140).run Tryz.prog w = .ok (.value (.pointer (some ⟨w.heap.size, 0, none⟩))) (w.alloc (.cells (tkA 0 0 0 ⟨#[]⟩) 140)) := by
  simp only [bigAlloc, Instr.alloc, Sem.run_bind, (zero_of_info info_tk).1 w, Result.andThen_ok]
  rfl
theorem tk_bodyPost2 {fn : Func} {R : Ending → World → Prop} {a : Act} {w : World} (p q n : Nat) (c : Array Value) (hres : fn.results = #[.cell p 140, .tmp q]) (hp : a.tmps.getD p undef = .pointer (some ⟨n, 0, none⟩)) (hd : a.defers = [])
    (hok : RowC w n c) (hc : c.size = 4) (h : R (.returned (.tuple #[.agg c, a.tmps.getD q undef])) w) : bodyPost Tryz.prog fn R .ret a w := by
  obtain ⟨t, hg⟩ := row_of_L hok.1
  rw [hok.2] at hg
  have hp' : a.tmps[p]?.getD undef = .pointer (some ⟨n, 0, none⟩) := by simpa using hp
  have hl := run_loadVar_row (P := Tryz.prog) w n t 140 c (0, 0) _ hg Tryz.underlying140 rfl (by rw [sizeT_tk, hc])
  refine bodyPost_ret (v := .tuple #[.agg c, a.tmps.getD q undef]) ?_ hd h
  simp [results, hres, hp', asAddr, hl]
def OneP (r : Tk × Nat) (w : World) (e : Ending) (w' : World) : Prop := (∃ S, e = .returned (.tuple #[.agg (tkA r.1.kind 0 r.1.n S), .int .i64 ((r.2 : Nat) : Int)]) ∧ lS S = r.1.text) ∧ Below w.heap.size w w'
theorem wl_le : ∀ l, wl l ≤ l.length
  | [] => Nat.le_refl _
  | b :: l => by
    rw [wl]
    split
    · have := wl_le l; simp; omega
    · simp
theorem wl_step (l : List UInt8) (k : Nat) (h : k < l.length) : wl (l.drop k) = if inW (lB l k) = true then wl (l.drop (k + 1)) + 1 else 0 := by
  have e1 : l.drop k = lB l k :: l.drop (k + 1) := by
    rw [List.drop_eq_getElem_cons h]; unfold lB; rw [List.getElem?_eq_getElem h]; rfl
  rw [e1, wl]
theorem sgn_R (l : List UInt8) (i : Nat) (h : sgnAt (lB l 0) 6 0 = some i) : oneTk l = (⟨(i : Int) + 1, 0, 0, []⟩, 1) := by unfold oneTk; rw [h]
theorem sgn_no (l : List UInt8) (h : sgnAt (lB l 0) 6 0 = none) : oneTk l = if lB l 0 = 34 then (⟨11, 0, 0, (txt l l.length 1 []).1⟩, (txt l l.length 1 []).2) else wordTk (l.take (wl l)) (wl l) := by unfold oneTk; rw [h]
theorem below_row14 {B n : Nat} {w0 w : World} (hb : Below B w0 w) (h : B ≤ n) (c : Array Value) : Below B w0 (w.setRow n c) :=
  ⟨hb.os, hb.tape, hb.output, by have := hb.size; simp only [World.setRow]; simpa using this, fun k hk => by rw [setRow_other w n k c (by omega)]; exact hb.block k hk⟩
def wdL : Nat → List UInt8
  | 0 => wdNull
  | 1 => wdTrue
  | _ => wdFalse
def wS : Nat → ByteArray
  | 0 => ⟨#[110, 117, 108, 108]⟩
  | 1 => ⟨#[116, 114, 117, 101]⟩
  | _ => ⟨#[102, 97, 108, 115, 101]⟩
theorem lS_wS (i : Nat) : lS (wS i) = wdL i := by
  match i with
  | 0 => rfl
  | 1 => rfl
  | i + 2 => rfl
theorem wd_hit (x : List UInt8) (n i : Nat) (hi : i < 3) (h : x = wdL i) : wordTk x n = (⟨7 + (i : Int), 0, 0, []⟩, n) := by
  subst h
  rcases (by omega : i = 0 ∨ i = 1 ∨ i = 2) with rfl | rfl | rfl
  · rfl
  · unfold wordTk; rw [if_neg (by decide), if_pos (show wdL 1 = wdTrue from rfl)]; rfl
  · unfold wordTk; rw [if_neg (by decide), if_neg (by decide), if_pos (show wdL 2 = wdFalse from rfl)]; rfl
theorem wd_miss (x : List UInt8) (n : Nat) (h : ∀ j, j < 3 → x ≠ wdL j) : wordTk x n = if numW x < 0 then (tkZ, 0) else (⟨10, 0, numW x, []⟩, n) := by
  unfold wordTk
  rw [if_neg (show ¬ x = wdNull from h 0 (by omega)), if_neg (show ¬ x = wdTrue from h 1 (by omega)), if_neg (show ¬ x = wdFalse from h 2 (by omega))]
theorem wS_cells (i : Nat) (hi : i < 3) : (#[Value.string ⟨#[110, 117, 108, 108]⟩, Value.string ⟨#[116, 114, 117, 101]⟩, Value.string ⟨#[102, 97, 108, 115, 101]⟩] : Array Value)[i]? = some (.string (wS i)) := by
  rcases (by omega : i = 0 ∨ i = 1 ∨ i = 2) with rfl | rfl | rfl <;> rfl
theorem sEq14 {s t : ByteArray} (h : lS s = lS t) : (s.toList == t.toList) = true := by rw [lS_inj h]; simp
theorem sNe14 {s t : ByteArray} (h : lS s ≠ lS t) : (s.toList == t.toList) = false := beq_eq_false_iff_ne.2 fun e => h (by unfold lS; rw [← ByteArray.toList_eq, ← ByteArray.toList_eq]; exact e)
set_option linter.unusedSimpArgs false in
set_option maxRecDepth 100000 in
set_option maxHeartbeats 8000000 in
theorem refOne_any (s : ByteArray) (w : World) (h0 : 0 < s.size) (h47 : s.size ≤ 140737488355328) : Calls Tryz.prog 72 #[.string s] w fun e w' => OneP (oneTk (lS s)) w e w' := by
  have hls := lS_len s
  have hT := fun W => refText_any s W h47
  obtain ⟨l, hl⟩ : ∃ q, lS s = q := ⟨_, rfl⟩
  rw [hl] at hls ⊢
  simp only [hl] at hT
  obtain ⟨p, hp⟩ : ∃ q, s.size = q := ⟨_, rfl⟩
  rw [hp] at hls h47 h0
  have z0 : (0 : Int) < (p : Int) := by omega
  obtain ⟨b0, hb0⟩ : ∃ q, lB l 0 = q := ⟨_, rfl⟩
  have hat0 : ∀ W, (sAt (.string s) (.int .i64 0)).run Tryz.prog W = .ok (.value (.int .u8 (b0.toNat : Int))) W := fun W => by
    have := run_sAt W s 0 (by rw [hp]; omega)
    rw [hl, hb0] at this; exact this
  have S1 := sgn_R l
  have S2 := sgn_no l
  rw [hb0] at S1 S2
  obtain ⟨RT, hRT⟩ : ∃ q, oneTk l = q := ⟨_, rfl⟩
  rw [hRT] at S1 S2 ⊢
  clear hRT
  obtain ⟨SG, hSG⟩ : ∃ q, ByteArray.mk #[123, 125, 91, 93, 58, 44] = q := ⟨_, rfl⟩
  have zg : SG.size = 6 := by rw [← hSG]; rfl
  have HLG : Hid (lS SG = sgns) := by show _ = _; rw [← hSG]; rfl
  have HSG : Hid _ := hSG
  clear hSG
  obtain ⟨RQ, hRQ⟩ : ∃ q, sgnAt b0 6 0 = q := ⟨_, rfl⟩
  rw [hRQ] at S1 S2
  have HR0 : Hid (sgnAt b0 (6 - 0) 0 = RQ) := hRQ
  clear hRQ
  have HS1 : Hid _ := S1
  have HS2 : Hid _ := S2
  clear S1 S2
  have rX := RowC.new w (tkA 0 0 0 ⟨#[]⟩) 140
  have bX := below_alloc w (.cells (tkA 0 0 0 ⟨#[]⟩) 140)
  go_enter Tryz.func72, Tryz.ntmps72
  go_upto_region 2 with fail
  rw [HSG.out]
  clear HSG
  obtain ⟨g, hg⟩ : ∃ q, w.heap.size = q := ⟨_, rfl⟩
  rw [hg] at rX
  simp only [hg]
  have hgw : w.heap.size ≤ g := by omega
  have HGW : Hid (w.heap.size = g) := hg
  clear hg
  generalize w.alloc (.cells (tkA 0 0 0 ⟨#[]⟩) 140) = X at rX bX ⊢
  go_wp2_with fail
  go_loopw [5] (fun iv wr => ∃ k : Nat, k ≤ 6 ∧ iv = .int .i64 k ∧ Hid (sgnAt b0 (6 - k) k = RQ) ∧ RowC wr g (tkA 0 0 0 ⟨#[]⟩) ∧ Below w.heap.size w wr) (fun iv _ => 6 - (intOf iv).toNat)
  case atStart => exact ⟨0, by omega, rfl, HR0, rX, bX⟩
  case round =>
    clear HR0 rX bX
    obtain ⟨k, hk, rfl, HR, hC, hB⟩ := hrel
    by_cases hlt : k < 6
    · have i0 : (0 : Int) ≤ (k : Int) := by omega
      have i1 : (k : Int) < 6 := by omega
      obtain ⟨r, hr⟩ : ∃ q, lB sgns k = q := ⟨_, rfl⟩
      have hatk : ∀ W, (sAt (.string SG) (.int .i64 (k : Int))).run Tryz.prog W = .ok (.value (.int .u8 (r.toNat : Int))) W := fun W => by
        have := run_sAt W SG k (by omega)
        rw [HLG.out, hr] at this; exact this
      have HR2 : Hid ((if b0 = r then some k else sgnAt b0 (6 - (k + 1)) (k + 1)) = RQ) := by
        show _ = RQ
        rw [← HR.out, show 6 - k = (6 - (k + 1)) + 1 by omega, ← hr]; rfl
      clear HR hr
      by_cases he : b0 = r
      · have f0 : ((b0.toNat : Int) == (r.toNat : Int)) = true := by rw [he]; simp
        have HE : Hid (RT = (⟨(k : Int) + 1, 0, 0, []⟩, 1)) := by
          have h9 := HR2.out
          rw [if_pos he] at h9
          exact HS1.out k h9.symm
        clear HR2 he hT
        go_upto_region 5 with fail
        refine wp_relies [Fx (.string s), Fx (.int .u8 (b0.toNat : Int)), Fx (.string SG), Fx (.int .i64 (k : Int)), Fx (.int .u8 (r.toNat : Int)), Fx (.bool true)] (by kernel_rfl) (by kernel_rfl) ?_ ?_ ?_
        · repeat' (first | exact all_nil | apply all_cons)
          all_goals intro v y y' hv hb
          all_goals first | exact Fx_mono _ _ _ _ hv hb
        · refine ⟨?_, ?_, ?_, ?_, ?_, ?_, trivial⟩
          all_goals
            intro ρ y9 hp ρc ρg ρf ho hd
            have o0 : ρ (.tmp 0) = .string s := ho 0 rfl
            have o4 : ρ (.tmp 4) = .string SG := ho 4 rfl
            have o5 : ρ (.tmp 5) = .int .i64 (k : Int) := ho 5 rfl
            clear ho
            simp only [depsR, depR, slotR, Fx, List.getElem?_cons_succ, List.getElem?_cons_zero, Region.binds, forall_const] at hd
            simp only [guardR]
            go_split_ands
          · go_simp
          · have hq := hat0 y9
            go_simp
          · go_simp
          · go_simp
          · have hq := hatk y9
            go_simp
          · go_simp
        · intro vs X1 hp9 hw
          simp only [owed, Fx] at hw
          obtain ⟨e0, e1, e2, e3, e4, e5, -⟩ := hw
          simp only [List.length_cons, List.length_nil, List.take_succ_cons, List.take_nil, List.drop_succ_cons, List.drop_nil, asg, List.cons_append, List.nil_append, e0, e1, e2, e3, e4, e5]
          clear e0 e1 e2 e3 e4 e5
          clear hat0 hatk
          have hC1 := hC.kept hp9
          have hB1 := hB.trans (hp9.mono hB.size)
          obtain ⟨c1, c2⟩ := hC1
          have c3 : (rowAt X1 g).size = 4 := by rw [c2]; rfl
          have HC2 : Hid (RowC (X1.setRow g (tkA ((k : Int) + 1) 0 0 ⟨#[]⟩)) g (tkA ((k : Int) + 1) 0 0 ⟨#[]⟩)) := (RowC.setRow (c := tkA 0 0 0 ⟨#[]⟩) ⟨c1, c2⟩ _)
          have HB2 : Hid (Below w.heap.size w (X1.setRow g (tkA ((k : Int) + 1) 0 0 ⟨#[]⟩))) := below_row14 hB1 hgw _
          clear hp9 hC hB
          go_wp2
          exact tk_bodyPost2 2 3 g (tkA ((k : Int) + 1) 0 0 ⟨#[]⟩) rfl rfl rfl HC2.out rfl ⟨⟨⟨#[]⟩, by rw [HE.out]; rfl, by rw [HE.out]; rfl⟩, HB2.out⟩
      · have f0 : ((b0.toNat : Int) == (r.toNat : Int)) = false := beq_eq_false_iff_ne.2 (fun e => he (UInt8.toNat_inj.1 (by omega)))
        have HR3 : Hid (sgnAt b0 (6 - (k + 1)) (k + 1) = RQ) := by
          have h9 := HR2.out
          rw [if_neg he] at h9; exact h9
        clear HR2 he hT
        go_upto_region 5 with fail
        refine wp_relies [Fx (.string s), Fx (.int .u8 (b0.toNat : Int)), Fx (.string SG), Fx (.int .i64 (k : Int)), Fx (.int .u8 (r.toNat : Int)), Fx (.bool false)] (by kernel_rfl) (by kernel_rfl) ?_ ?_ ?_
        · repeat' (first | exact all_nil | apply all_cons)
          all_goals intro v y y' hv hb
          all_goals first | exact Fx_mono _ _ _ _ hv hb
        · refine ⟨?_, ?_, ?_, ?_, ?_, ?_, trivial⟩
          all_goals
            intro ρ y9 hp ρc ρg ρf ho hd
            have o0 : ρ (.tmp 0) = .string s := ho 0 rfl
            have o4 : ρ (.tmp 4) = .string SG := ho 4 rfl
            have o5 : ρ (.tmp 5) = .int .i64 (k : Int) := ho 5 rfl
            clear ho
            simp only [depsR, depR, slotR, Fx, List.getElem?_cons_succ, List.getElem?_cons_zero, Region.binds, forall_const] at hd
            simp only [guardR]
            go_split_ands
          · go_simp
          · have hq := hat0 y9
            go_simp
          · go_simp
          · go_simp
          · have hq := hatk y9
            go_simp
          · go_simp
        · intro vs X1 hp9 hw
          simp only [owed, Fx] at hw
          obtain ⟨e0, e1, e2, e3, e4, e5, -⟩ := hw
          simp only [List.length_cons, List.length_nil, List.take_succ_cons, List.take_nil, List.drop_succ_cons, List.drop_nil, asg, List.cons_append, List.nil_append, e0, e1, e2, e3, e4, e5]
          clear e0 e1 e2 e3 e4 e5
          clear hat0 hatk
          have HC1 : Hid _ := hC.kept hp9
          have HB1 : Hid _ := hB.trans (hp9.mono hB.size)
          clear hp9 hC hB
          go_wp2
          go_roundw
          case rel => first | exact ⟨k + 1, by omega, by go_num, HR3, HC1.out, HB1.out⟩ | ((repeat apply Exists.intro); refine ⟨⟨k + 1, by omega, ?_, HR3, HC1.out, HB1.out⟩, rfl⟩; go_num)
          case measure => simp [intOf]; omega
    · obtain rfl : k = 6 := by omega
      have H2 : Hid (RT = if b0 = 34 then (⟨11, 0, 0, (txt l l.length 1 []).1⟩, (txt l l.length 1 []).2) else wordTk (l.take (wl l)) (wl l)) := HS2.out HR.out.symm
      clear HR HS1 HS2 hlt
      by_cases h34 : b0 = 34
      · have f0 : ((b0.toNat : Int) == 34) = true := by rw [h34]; rfl
        have HE : Hid (RT = (⟨11, 0, 0, (txt l l.length 1 []).1⟩, (txt l l.length 1 []).2)) := by show _ = _; rw [H2.out, if_pos h34]
        clear H2 h34
        unfold TxP at hT
        generalize txt l l.length 1 [] = TX at hT HE
        obtain ⟨tx, n⟩ := TX
        simp only at hT HE
        go_wp2_with fail
        refine (hT _).mono ?_
        rintro e w1 ⟨⟨S, rfl, hS⟩, hb9⟩
        have hC1 := hC.kept hb9
        have hB1 := hB.trans (hb9.mono hB.size)
        obtain ⟨c1, c2⟩ := hC1
        have c3 : (rowAt w1 g).size = 4 := by rw [c2]; rfl
        have HC2 : Hid (RowC (w1.setRow g (tkA 11 0 0 S)) g (tkA 11 0 0 S)) := (RowC.setRow (c := tkA 0 0 0 ⟨#[]⟩) ⟨c1, c2⟩ _)
        have HB2 : Hid (Below w.heap.size w (w1.setRow g (tkA 11 0 0 S))) := below_row14 hB1 hgw _
        clear hT hb9 hC hB hat0
        go_wp2
        exact tk_bodyPost2 2 3 g (tkA 11 0 0 S) rfl rfl rfl HC2.out rfl ⟨⟨S, by rw [HE.out]; rfl, by rw [HE.out]; exact hS⟩, HB2.out⟩
      · have f0 : ((b0.toNat : Int) == 34) = false := beq_eq_false_iff_ne.2 (fun e => h34 (UInt8.toNat_inj.1 (by show b0.toNat = 34; omega)))
        have HE : Hid (RT = wordTk (l.take (wl l)) (wl l)) := by show _ = _; rw [H2.out, if_neg h34]
        clear H2 h34 hT
        go_wp2_with fail
        clear hat0
        go_loopw [8] (fun iv wr => ∃ k : Nat, k ≤ p ∧ iv = .int .i64 k ∧ Hid (wl l = k + wl (l.drop k)) ∧ RowC wr g (tkA 0 0 0 ⟨#[]⟩) ∧ Below w.heap.size w wr) (fun iv _ => p - (intOf iv).toNat)
        case atStart => exact ⟨0, by omega, rfl, by show wl l = 0 + wl (l.drop 0); simp, hC, hB⟩
        case round =>
          clear hC hB
          obtain ⟨k, hk, rfl, HW, hC, hB⟩ := hrel
          by_cases hlt : k < p
          · have i0 : (0 : Int) ≤ (k : Int) := by omega
            have i1 : (k : Int) < (p : Int) := by omega
            obtain ⟨b, hb⟩ : ∃ q, lB l k = q := ⟨_, rfl⟩
            have hbk : ∀ W, (sAt (.string s) (.int .i64 (k : Int))).run Tryz.prog W = .ok (.value (.int .u8 (b.toNat : Int))) W := fun W => by
              have := run_sAt W s k (by rw [hp]; omega)
              rw [hl, hb] at this; exact this
            have hI := refInW_any b
            have hst := wl_step l k (by omega)
            rw [hb] at hst
            obtain ⟨q, hq⟩ : ∃ q, inW b = q := ⟨_, rfl⟩
            rw [hq] at hst
            simp only [hq] at hI
            have HWS : Hid _ := hst
            clear hst hb hq
            go_wp2_with fail
            refine (hI _).mono ?_
            rintro e w1 ⟨rfl, hb9⟩
            have hC1 := hC.kept hb9
            have hB1 := hB.trans (hb9.mono hB.size)
            clear hI hbk hC hB hb9
            cases q
            · have hwl : wl l = k := by rw [HW.out, HWS.out]; rfl
              have hC := hC1
              have hB := hB1
              clear HW HWS hC1 hB1
              obtain ⟨WB, hWB⟩ : ∃ q, s.extract 0 k = q := ⟨_, rfl⟩
              have hlW : lS WB = l.take k := by rw [← hWB, lS_cut, hl, List.drop_zero, Nat.sub_zero]
              have hcW : ∀ W, (sCut0 (.string s) (.int .i64 (k : Int))).run Tryz.prog W = .ok (.value (.string WB)) W := fun W => by
                have := run_sCut0 W s k (by omega)
                rw [hWB] at this; exact this
              have hNum := fun W => refNum_any WB W (by rw [← lS_len, hlW, List.length_take]; omega)
              simp only [hlW] at hNum
              have HWT : Hid (RT = wordTk (l.take k) k) := by show _ = _; rw [HE.out, hwl]
              clear hWB hwl HE
              obtain ⟨x, hx⟩ : ∃ q, l.take k = q := ⟨_, rfl⟩
              rw [hx] at hlW HWT
              simp only [hx] at hNum
              clear hx
              have bY := below_alloc w1 (.cells #[Value.string ⟨#[110, 117, 108, 108]⟩, Value.string ⟨#[116, 114, 117, 101]⟩, Value.string ⟨#[102, 97, 108, 115, 101]⟩] 9)
              have hCY := hC.kept bY
              have hBY := hB.trans (bY.mono hB.size)
              have HCE : Hid (∀ i, i < 3 → (w1.alloc (.cells #[Value.string ⟨#[110, 117, 108, 108]⟩, Value.string ⟨#[116, 114, 117, 101]⟩, Value.string ⟨#[102, 97, 108, 115, 101]⟩] 9)).cell? ⟨w1.heap.size, i, none⟩ = some (.string (wS i))) := fun i hi => by
                rw [cell_of_row _ _ i _ _ _ (heap_alloc_last _ _)]; exact wS_cells i hi
              clear bY hC hB
              go_upto_region 14 with fail
              obtain ⟨gw, hgw9⟩ : ∃ q, w1.heap.size = q := ⟨_, rfl⟩
              rw [hgw9] at HCE
              simp only [hgw9]
              clear hgw9
              generalize w1.alloc (.cells #[Value.string ⟨#[110, 117, 108, 108]⟩, Value.string ⟨#[116, 114, 117, 101]⟩, Value.string ⟨#[102, 97, 108, 115, 101]⟩] 9) = Y at hCY hBY HCE ⊢
              go_wp2_with fail
              go_loopw [10] (fun iv wr => ∃ j : Nat, j ≤ 3 ∧ iv = .int .i64 j ∧ Hid (∀ m, m < j → x ≠ wdL m) ∧ RowC wr g (tkA 0 0 0 ⟨#[]⟩) ∧ Below Y.heap.size Y wr ∧ Below w.heap.size w wr) (fun iv _ => 3 - (intOf iv).toNat)
              case atStart => exact ⟨0, by omega, rfl, (fun m hm => absurd hm (by omega)), hCY, Below.refl _ _, hBY⟩
              case round =>
                clear hCY hBY
                obtain ⟨j, hj, rfl, HJ, hC, hYb, hB⟩ := hrel
                by_cases hjl : j < 3
                · have j0 : (0 : Int) ≤ (j : Int) := by omega
                  have j1 : (j : Int) < 3 := by omega
                  have hce := HCE.out j hjl
                  have hlj := lS_wS j
                  have HWN : Hid (∀ n, x = wdL j → wordTk x n = (⟨7 + (j : Int), 0, 0, []⟩, n)) := fun n h => wd_hit x n j hjl h
                  obtain ⟨WJ, hWJ⟩ : ∃ q, wS j = q := ⟨_, rfl⟩
                  rw [hWJ] at hce hlj
                  clear hWJ
                  by_cases he : x = wdL j
                  · have f9 : (WB.toList == WJ.toList) = true := sEq14 (by rw [hlW, hlj]; exact he)
                    have HR : Hid (RT = (⟨7 + (j : Int), 0, 0, []⟩, k)) := by show _ = _; rw [HWT.out]; exact HWN.out k he
                    clear HWN HJ he hNum hlW hlj
                    go_upto_region 17 with fail
                    refine wp_relies [Fx (.string s), Fx (.int .i64 (k : Int)), Fx (.string WB), Fx (.slice (some ⟨gw, 0, none⟩) 3 3), Fx (.int .i64 (j : Int)), Fx (.pointer (some ⟨gw, j, none⟩)), Fx (.string WJ), Fx (.bool true)] (by kernel_rfl) (by kernel_rfl) ?_ ?_ ?_
                    · repeat' (first | exact all_nil | apply all_cons)
                      all_goals intro v y y' hv hb
                      all_goals first | exact Fx_mono _ _ _ _ hv hb
                    · refine ⟨?_, ?_, ?_, ?_, ?_, ?_, ?_, ?_, trivial⟩
                      all_goals
                        intro ρ y9 hp ρc ρg ρf ho hd
                        have o0 : ρ (.tmp 0) = .string s := ho 0 rfl
                        have o8 : ρ (.tmp 8) = .int .i64 (k : Int) := ho 8 rfl
                        have o9 : ρ (.tmp 9) = .slice (some ⟨gw, 0, none⟩) 3 3 := ho 9 rfl
                        have o10 : ρ (.tmp 10) = .int .i64 (j : Int) := ho 10 rfl
                        clear ho
                        simp only [depsR, depR, slotR, Fx, List.getElem?_cons_succ, List.getElem?_cons_zero, Region.binds, forall_const] at hd
                        simp only [guardR]
                        go_split_ands
                      · go_simp
                      · go_simp
                      · have hq := hcW y9
                        go_simp
                      · go_simp
                      · go_simp
                      · go_simp
                      · have kc := cell_later (hYb.trans (hp.mono hYb.size)) hce
                        go_simp
                      · go_simp
                    · intro vs X1 hp9 hw
                      simp only [owed, Fx] at hw
                      obtain ⟨e0, e1, e2, e3, e4, e5, e6, e7, -⟩ := hw
                      simp only [List.length_cons, List.length_nil, List.take_succ_cons, List.take_nil, List.drop_succ_cons, List.drop_nil, asg, List.cons_append, List.nil_append, e0, e1, e2, e3, e4, e5, e6, e7]
                      clear e0 e1 e2 e3 e4 e5 e6 e7
                      have hC1 := hC.kept hp9
                      have hB1 := hB.trans (hp9.mono hB.size)
                      obtain ⟨c1, c2⟩ := hC1
                      have HC2 : Hid (RowC (X1.setRow g (tkA (7 + (j : Int)) 0 0 ⟨#[]⟩)) g (tkA (7 + (j : Int)) 0 0 ⟨#[]⟩)) := (RowC.setRow (c := tkA 0 0 0 ⟨#[]⟩) ⟨c1, c2⟩ _)
                      have HB2 : Hid (Below w.heap.size w (X1.setRow g (tkA (7 + (j : Int)) 0 0 ⟨#[]⟩))) := below_row14 hB1 hgw _
                      clear hp9 hC hB hYb hcW hce f9
                      go_wp2
                      exact tk_bodyPost2 2 3 g (tkA (7 + (j : Int)) 0 0 ⟨#[]⟩) rfl rfl rfl HC2.out rfl ⟨⟨⟨#[]⟩, by rw [HR.out]; rfl, by rw [HR.out]; rfl⟩, HB2.out⟩
                  · have f9 : (WB.toList == WJ.toList) = false := sNe14 (by rw [hlW, hlj]; exact he)
                    have HJ2 : Hid (∀ m, m < j + 1 → x ≠ wdL m) := fun m hm => by
                      rcases Nat.lt_or_ge m j with h | h
                      · exact HJ.out m h
                      · obtain rfl : m = j := by omega
                        exact he
                    clear HWN HJ he hNum hlW hlj
                    go_upto_region 17 with fail
                    refine wp_relies [Fx (.string s), Fx (.int .i64 (k : Int)), Fx (.string WB), Fx (.slice (some ⟨gw, 0, none⟩) 3 3), Fx (.int .i64 (j : Int)), Fx (.pointer (some ⟨gw, j, none⟩)), Fx (.string WJ), Fx (.bool false)] (by kernel_rfl) (by kernel_rfl) ?_ ?_ ?_
                    · repeat' (first | exact all_nil | apply all_cons)
                      all_goals intro v y y' hv hb
                      all_goals first | exact Fx_mono _ _ _ _ hv hb
                    · refine ⟨?_, ?_, ?_, ?_, ?_, ?_, ?_, ?_, trivial⟩
                      all_goals
                        intro ρ y9 hp ρc ρg ρf ho hd
                        have o0 : ρ (.tmp 0) = .string s := ho 0 rfl
                        have o8 : ρ (.tmp 8) = .int .i64 (k : Int) := ho 8 rfl
                        have o9 : ρ (.tmp 9) = .slice (some ⟨gw, 0, none⟩) 3 3 := ho 9 rfl
                        have o10 : ρ (.tmp 10) = .int .i64 (j : Int) := ho 10 rfl
                        clear ho
                        simp only [depsR, depR, slotR, Fx, List.getElem?_cons_succ, List.getElem?_cons_zero, Region.binds, forall_const] at hd
                        simp only [guardR]
                        go_split_ands
                      · go_simp
                      · go_simp
                      · have hq := hcW y9
                        go_simp
                      · go_simp
                      · go_simp
                      · go_simp
                      · have kc := cell_later (hYb.trans (hp.mono hYb.size)) hce
                        go_simp
                      · go_simp
                    · intro vs X1 hp9 hw
                      simp only [owed, Fx] at hw
                      obtain ⟨e0, e1, e2, e3, e4, e5, e6, e7, -⟩ := hw
                      simp only [List.length_cons, List.length_nil, List.take_succ_cons, List.take_nil, List.drop_succ_cons, List.drop_nil, asg, List.cons_append, List.nil_append, e0, e1, e2, e3, e4, e5, e6, e7]
                      clear e0 e1 e2 e3 e4 e5 e6 e7
                      have HC1 : Hid _ := hC.kept hp9
                      have HY1 : Hid _ := hYb.trans (hp9.mono hYb.size)
                      have HB1 : Hid _ := hB.trans (hp9.mono hB.size)
                      clear hp9 hC hB hYb hcW hce f9
                      go_wp2
                      go_roundw
                      case rel => first | exact ⟨j + 1, by omega, by go_num, HJ2, HC1.out, HY1.out, HB1.out⟩ | ((repeat apply Exists.intro); refine ⟨⟨j + 1, by omega, ?_, HJ2, HC1.out, HY1.out, HB1.out⟩, rfl⟩; go_num)
                      case measure => simp [intOf]; omega
                · obtain rfl : j = 3 := by omega
                  have HR : Hid (RT = if numW x < 0 then (tkZ, 0) else (⟨10, 0, numW x, []⟩, k)) := by show _ = _; rw [HWT.out]; exact wd_miss x k HJ.out
                  obtain ⟨v, hv⟩ : ∃ q, numW x = q := ⟨_, rfl⟩
                  rw [hv] at HR
                  simp only [hv] at hNum
                  clear HJ HCE hv hYb hlW
                  go_wp2_with fail
                  refine (hNum _).mono ?_
                  rintro e w9 ⟨rfl, hb9⟩
                  have hC1 := hC.kept hb9
                  have hB1 := hB.trans (hb9.mono hB.size)
                  obtain ⟨c1, c2⟩ := hC1
                  clear hNum hb9 hC hB hcW
                  by_cases hneg : v < 0
                  · have HR2 : Hid (RT = (tkZ, 0)) := by show _ = _; rw [HR.out, if_pos hneg]
                    have HC2 : Hid (RowC (w9.setRow g (tkA 0 0 0 ⟨#[]⟩)) g (tkA 0 0 0 ⟨#[]⟩)) := (RowC.setRow (c := tkA 0 0 0 ⟨#[]⟩) ⟨c1, c2⟩ _)
                    have HB2 : Hid (Below w.heap.size w (w9.setRow g (tkA 0 0 0 ⟨#[]⟩))) := below_row14 hB1 hgw _
                    clear HR
                    go_wp2
                    exact tk_bodyPost2 2 3 g (tkA 0 0 0 ⟨#[]⟩) rfl rfl rfl HC2.out rfl ⟨⟨⟨#[]⟩, by rw [HR2.out]; rfl, by rw [HR2.out]; rfl⟩, HB2.out⟩
                  · have HR2 : Hid (RT = (⟨10, 0, v, []⟩, k)) := by show _ = _; rw [HR.out, if_neg hneg]
                    have HC2 : Hid (RowC (w9.setRow g (tkA 10 0 v ⟨#[]⟩)) g (tkA 10 0 v ⟨#[]⟩)) := (RowC.setRow (c := tkA 0 0 0 ⟨#[]⟩) ⟨c1, c2⟩ _)
                    have HB2 : Hid (Below w.heap.size w (w9.setRow g (tkA 10 0 v ⟨#[]⟩))) := below_row14 hB1 hgw _
                    clear HR
                    go_wp2
                    exact tk_bodyPost2 2 3 g (tkA 10 0 v ⟨#[]⟩) rfl rfl rfl HC2.out rfl ⟨⟨⟨#[]⟩, by rw [HR2.out]; rfl, by rw [HR2.out]; rfl⟩, HB2.out⟩
            · have HW2 : Hid (wl l = (k + 1) + wl (l.drop (k + 1))) := by
                have h8 := HWS.out
                rw [if_pos rfl] at h8
                show _ = _
                rw [HW.out, h8]; omega
              clear HW HWS
              go_wp2
              go_roundw
              case rel => first | exact ⟨k + 1, by omega, by go_num, HW2, hC1, hB1⟩ | ((repeat apply Exists.intro); refine ⟨⟨k + 1, by omega, ?_, HW2, hC1, hB1⟩, rfl⟩; go_num)
              case measure => simp [intOf]; omega
          · obtain rfl : k = p := by omega
            have hlt' : ¬ (k : Int) < (k : Int) := by omega
            have hwl : wl l = k := by rw [HW.out, List.drop_of_length_le (by omega)]; rfl
            clear HW
            obtain ⟨WB, hWB⟩ : ∃ q, s.extract 0 k = q := ⟨_, rfl⟩
            have hlW : lS WB = l.take k := by rw [← hWB, lS_cut, hl, List.drop_zero, Nat.sub_zero]
            have hcW : ∀ W, (sCut0 (.string s) (.int .i64 (k : Int))).run Tryz.prog W = .ok (.value (.string WB)) W := fun W => by
              have := run_sCut0 W s k (by omega)
              rw [hWB] at this; exact this
            have hNum := fun W => refNum_any WB W (by rw [← lS_len, hlW, List.length_take]; omega)
            simp only [hlW] at hNum
            have HWT : Hid (RT = wordTk (l.take k) k) := by show _ = _; rw [HE.out, hwl]
            clear hWB hwl HE
            obtain ⟨x, hx⟩ : ∃ q, l.take k = q := ⟨_, rfl⟩
            rw [hx] at hlW HWT
            simp only [hx] at hNum
            clear hx
            have bY := below_alloc wr (.cells #[Value.string ⟨#[110, 117, 108, 108]⟩, Value.string ⟨#[116, 114, 117, 101]⟩, Value.string ⟨#[102, 97, 108, 115, 101]⟩] 9)
            have hCY := hC.kept bY
            have hBY := hB.trans (bY.mono hB.size)
            have HCE : Hid (∀ i, i < 3 → (wr.alloc (.cells #[Value.string ⟨#[110, 117, 108, 108]⟩, Value.string ⟨#[116, 114, 117, 101]⟩, Value.string ⟨#[102, 97, 108, 115, 101]⟩] 9)).cell? ⟨wr.heap.size, i, none⟩ = some (.string (wS i))) := fun i hi => by
              rw [cell_of_row _ _ i _ _ _ (heap_alloc_last _ _)]; exact wS_cells i hi
            clear bY hC hB
            go_upto_region 14 with fail
            obtain ⟨gw, hgw9⟩ : ∃ q, wr.heap.size = q := ⟨_, rfl⟩
            rw [hgw9] at HCE
            simp only [hgw9]
            clear hgw9
            generalize wr.alloc (.cells #[Value.string ⟨#[110, 117, 108, 108]⟩, Value.string ⟨#[116, 114, 117, 101]⟩, Value.string ⟨#[102, 97, 108, 115, 101]⟩] 9) = Y at hCY hBY HCE ⊢
            go_wp2_with fail
            go_loopw [10] (fun iv wr => ∃ j : Nat, j ≤ 3 ∧ iv = .int .i64 j ∧ Hid (∀ m, m < j → x ≠ wdL m) ∧ RowC wr g (tkA 0 0 0 ⟨#[]⟩) ∧ Below Y.heap.size Y wr ∧ Below w.heap.size w wr) (fun iv _ => 3 - (intOf iv).toNat)
            case atStart => exact ⟨0, by omega, rfl, (fun m hm => absurd hm (by omega)), hCY, Below.refl _ _, hBY⟩
            case round =>
              clear hCY hBY
              obtain ⟨j, hj, rfl, HJ, hC, hYb, hB⟩ := hrel
              by_cases hjl : j < 3
              · have j0 : (0 : Int) ≤ (j : Int) := by omega
                have j1 : (j : Int) < 3 := by omega
                have hce := HCE.out j hjl
                have hlj := lS_wS j
                have HWN : Hid (∀ n, x = wdL j → wordTk x n = (⟨7 + (j : Int), 0, 0, []⟩, n)) := fun n h => wd_hit x n j hjl h
                obtain ⟨WJ, hWJ⟩ : ∃ q, wS j = q := ⟨_, rfl⟩
                rw [hWJ] at hce hlj
                clear hWJ
                by_cases he : x = wdL j
                · have f9 : (WB.toList == WJ.toList) = true := sEq14 (by rw [hlW, hlj]; exact he)
                  have HR : Hid (RT = (⟨7 + (j : Int), 0, 0, []⟩, k)) := by show _ = _; rw [HWT.out]; exact HWN.out k he
                  clear HWN HJ he hNum hlW hlj
                  go_upto_region 17 with fail
                  refine wp_relies [Fx (.string s), Fx (.int .i64 (k : Int)), Fx (.string WB), Fx (.slice (some ⟨gw, 0, none⟩) 3 3), Fx (.int .i64 (j : Int)), Fx (.pointer (some ⟨gw, j, none⟩)), Fx (.string WJ), Fx (.bool true)] (by kernel_rfl) (by kernel_rfl) ?_ ?_ ?_
                  · repeat' (first | exact all_nil | apply all_cons)
                    all_goals intro v y y' hv hb
                    all_goals first | exact Fx_mono _ _ _ _ hv hb
                  · refine ⟨?_, ?_, ?_, ?_, ?_, ?_, ?_, ?_, trivial⟩
                    all_goals
                      intro ρ y9 hp ρc ρg ρf ho hd
                      have o0 : ρ (.tmp 0) = .string s := ho 0 rfl
                      have o8 : ρ (.tmp 8) = .int .i64 (k : Int) := ho 8 rfl
                      have o9 : ρ (.tmp 9) = .slice (some ⟨gw, 0, none⟩) 3 3 := ho 9 rfl
                      have o10 : ρ (.tmp 10) = .int .i64 (j : Int) := ho 10 rfl
                      clear ho
                      simp only [depsR, depR, slotR, Fx, List.getElem?_cons_succ, List.getElem?_cons_zero, Region.binds, forall_const] at hd
                      simp only [guardR]
                      go_split_ands
                    · go_simp
                    · go_simp
                    · have hq := hcW y9
                      go_simp
                    · go_simp
                    · go_simp
                    · go_simp
                    · have kc := cell_later (hYb.trans (hp.mono hYb.size)) hce
                      go_simp
                    · go_simp
                  · intro vs X1 hp9 hw
                    simp only [owed, Fx] at hw
                    obtain ⟨e0, e1, e2, e3, e4, e5, e6, e7, -⟩ := hw
                    simp only [List.length_cons, List.length_nil, List.take_succ_cons, List.take_nil, List.drop_succ_cons, List.drop_nil, asg, List.cons_append, List.nil_append, e0, e1, e2, e3, e4, e5, e6, e7]
                    clear e0 e1 e2 e3 e4 e5 e6 e7
                    have hC1 := hC.kept hp9
                    have hB1 := hB.trans (hp9.mono hB.size)
                    obtain ⟨c1, c2⟩ := hC1
                    have HC2 : Hid (RowC (X1.setRow g (tkA (7 + (j : Int)) 0 0 ⟨#[]⟩)) g (tkA (7 + (j : Int)) 0 0 ⟨#[]⟩)) := (RowC.setRow (c := tkA 0 0 0 ⟨#[]⟩) ⟨c1, c2⟩ _)
                    have HB2 : Hid (Below w.heap.size w (X1.setRow g (tkA (7 + (j : Int)) 0 0 ⟨#[]⟩))) := below_row14 hB1 hgw _
                    clear hp9 hC hB hYb hcW hce f9
                    go_wp2
                    exact tk_bodyPost2 2 3 g (tkA (7 + (j : Int)) 0 0 ⟨#[]⟩) rfl rfl rfl HC2.out rfl ⟨⟨⟨#[]⟩, by rw [HR.out]; rfl, by rw [HR.out]; rfl⟩, HB2.out⟩
                · have f9 : (WB.toList == WJ.toList) = false := sNe14 (by rw [hlW, hlj]; exact he)
                  have HJ2 : Hid (∀ m, m < j + 1 → x ≠ wdL m) := fun m hm => by
                    rcases Nat.lt_or_ge m j with h | h
                    · exact HJ.out m h
                    · obtain rfl : m = j := by omega
                      exact he
                  clear HWN HJ he hNum hlW hlj
                  go_upto_region 17 with fail
                  refine wp_relies [Fx (.string s), Fx (.int .i64 (k : Int)), Fx (.string WB), Fx (.slice (some ⟨gw, 0, none⟩) 3 3), Fx (.int .i64 (j : Int)), Fx (.pointer (some ⟨gw, j, none⟩)), Fx (.string WJ), Fx (.bool false)] (by kernel_rfl) (by kernel_rfl) ?_ ?_ ?_
                  · repeat' (first | exact all_nil | apply all_cons)
                    all_goals intro v y y' hv hb
                    all_goals first | exact Fx_mono _ _ _ _ hv hb
                  · refine ⟨?_, ?_, ?_, ?_, ?_, ?_, ?_, ?_, trivial⟩
                    all_goals
                      intro ρ y9 hp ρc ρg ρf ho hd
                      have o0 : ρ (.tmp 0) = .string s := ho 0 rfl
                      have o8 : ρ (.tmp 8) = .int .i64 (k : Int) := ho 8 rfl
                      have o9 : ρ (.tmp 9) = .slice (some ⟨gw, 0, none⟩) 3 3 := ho 9 rfl
                      have o10 : ρ (.tmp 10) = .int .i64 (j : Int) := ho 10 rfl
                      clear ho
                      simp only [depsR, depR, slotR, Fx, List.getElem?_cons_succ, List.getElem?_cons_zero, Region.binds, forall_const] at hd
                      simp only [guardR]
                      go_split_ands
                    · go_simp
                    · go_simp
                    · have hq := hcW y9
                      go_simp
                    · go_simp
                    · go_simp
                    · go_simp
                    · have kc := cell_later (hYb.trans (hp.mono hYb.size)) hce
                      go_simp
                    · go_simp
                  · intro vs X1 hp9 hw
                    simp only [owed, Fx] at hw
                    obtain ⟨e0, e1, e2, e3, e4, e5, e6, e7, -⟩ := hw
                    simp only [List.length_cons, List.length_nil, List.take_succ_cons, List.take_nil, List.drop_succ_cons, List.drop_nil, asg, List.cons_append, List.nil_append, e0, e1, e2, e3, e4, e5, e6, e7]
                    clear e0 e1 e2 e3 e4 e5 e6 e7
                    have HC1 : Hid _ := hC.kept hp9
                    have HY1 : Hid _ := hYb.trans (hp9.mono hYb.size)
                    have HB1 : Hid _ := hB.trans (hp9.mono hB.size)
                    clear hp9 hC hB hYb hcW hce f9
                    go_wp2
                    go_roundw
                    case rel => first | exact ⟨j + 1, by omega, by go_num, HJ2, HC1.out, HY1.out, HB1.out⟩ | ((repeat apply Exists.intro); refine ⟨⟨j + 1, by omega, ?_, HJ2, HC1.out, HY1.out, HB1.out⟩, rfl⟩; go_num)
                    case measure => simp [intOf]; omega
              · obtain rfl : j = 3 := by omega
                have HR : Hid (RT = if numW x < 0 then (tkZ, 0) else (⟨10, 0, numW x, []⟩, k)) := by show _ = _; rw [HWT.out]; exact wd_miss x k HJ.out
                obtain ⟨v, hv⟩ : ∃ q, numW x = q := ⟨_, rfl⟩
                rw [hv] at HR
                simp only [hv] at hNum
                clear HJ HCE hv hYb hlW
                go_wp2_with fail
                refine (hNum _).mono ?_
                rintro e w9 ⟨rfl, hb9⟩
                have hC1 := hC.kept hb9
                have hB1 := hB.trans (hb9.mono hB.size)
                obtain ⟨c1, c2⟩ := hC1
                clear hNum hb9 hC hB hcW
                by_cases hneg : v < 0
                · have HR2 : Hid (RT = (tkZ, 0)) := by show _ = _; rw [HR.out, if_pos hneg]
                  have HC2 : Hid (RowC (w9.setRow g (tkA 0 0 0 ⟨#[]⟩)) g (tkA 0 0 0 ⟨#[]⟩)) := (RowC.setRow (c := tkA 0 0 0 ⟨#[]⟩) ⟨c1, c2⟩ _)
                  have HB2 : Hid (Below w.heap.size w (w9.setRow g (tkA 0 0 0 ⟨#[]⟩))) := below_row14 hB1 hgw _
                  clear HR
                  go_wp2
                  exact tk_bodyPost2 2 3 g (tkA 0 0 0 ⟨#[]⟩) rfl rfl rfl HC2.out rfl ⟨⟨⟨#[]⟩, by rw [HR2.out]; rfl, by rw [HR2.out]; rfl⟩, HB2.out⟩
                · have HR2 : Hid (RT = (⟨10, 0, v, []⟩, k)) := by show _ = _; rw [HR.out, if_neg hneg]
                  have HC2 : Hid (RowC (w9.setRow g (tkA 10 0 v ⟨#[]⟩)) g (tkA 10 0 v ⟨#[]⟩)) := (RowC.setRow (c := tkA 0 0 0 ⟨#[]⟩) ⟨c1, c2⟩ _)
                  have HB2 : Hid (Below w.heap.size w (w9.setRow g (tkA 10 0 v ⟨#[]⟩))) := below_row14 hB1 hgw _
                  clear HR
                  go_wp2
                  exact tk_bodyPost2 2 3 g (tkA 10 0 v ⟨#[]⟩) rfl rfl rfl HC2.out rfl ⟨⟨⟨#[]⟩, by rw [HR2.out]; rfl, by rw [HR2.out]; rfl⟩, HB2.out⟩
end Go.Proofs.YtalnbddkhojjbaaGreatDoor
