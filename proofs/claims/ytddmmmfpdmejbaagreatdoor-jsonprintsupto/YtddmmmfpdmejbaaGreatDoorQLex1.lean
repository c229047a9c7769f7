import Derived.Test.YtddmmmfpdmejbaaGreatDoorQNum
namespace Go.Proofs.YtddmmmfpdmejbaaGreatDoor
open Go.RowKit

/-! assayref14: digit, encoded -/
theorem str_new14 (w : World) (l : List UInt8) : (convert 26 9 (.slice (some ⟨w.heap.size, 0, none⟩) l.length l.length)).run Tryz.prog (w.alloc (.cells (bytesA l) 5)) = .ok (.string ⟨l.toArray⟩) (w.alloc (.cells (bytesA l) 5)) := by
  refine IsB.str (.inr ⟨⟨w.heap.size, 0, none⟩, l.length, rfl, fun i hi => ?_⟩)
  rw [addr_add, Nat.zero_add, cell_of_row _ _ _ _ _ _ (heap_alloc_last _ _), bytesA_get l i hi]
theorem u8_nat (n : Nat) (h : n < 256) : (u8 n).toNat = n := by unfold u8; rw [UInt8.toNat_ofNat']; omega
set_option linter.unusedSimpArgs false in
set_option maxRecDepth 100000 in
set_option maxHeartbeats 1000000 in
theorem refEnc_any (v : Nat) (hv : v ≤ 1114111) (w : World) : Calls Tryz.prog 108 #[.int .i64 (v : Int)] w fun e w' => e = .returned (.string ⟨(enc v).toArray⟩) ∧ Below w.heap.size w w' := by
  by_cases h1 : v < 128
  · have j : (v : Int) < 128 := by omega
    have e1 : enc v = [u8 v] := by unfold enc; rw [if_pos h1]
    have a0 : ((u8 (v)).toNat : Int) = (v : Int) := by (rw [u8_nat _ (by omega)]) <;> omega
    have hq : #[Value.int .u8 ((v : Int))] = bytesA (enc v) := by rw [e1]; simp only [bytesA, List.map_cons, List.map_nil, a0]
    have hcv : (convert 26 9 (.slice (some ⟨w.heap.size, 0, none⟩) 1 1)).run Tryz.prog (w.alloc (.cells #[Value.int .u8 ((v : Int))] 5)) = .ok (.string ⟨(enc v).toArray⟩) (w.alloc (.cells #[Value.int .u8 ((v : Int))] 5)) := by
      have h9 := str_new14 w (enc v)
      rw [← hq, show (enc v).length = 1 by rw [e1]; rfl] at h9
      exact h9
    generalize (enc v).toArray = EA at hcv ⊢
    clear e1 hq a0
    go_enter Tryz.func108, Tryz.ntmps108
    go_wp2
    go_ret
    exact ⟨rfl, below_alloc _ _⟩
  by_cases h2 : v < 2048
  · have i0 : ¬ (v : Int) < 128 := by omega
    have j : (v : Int) < 2048 := by omega
    have e1 : enc v = [u8 (192 + v / 64), u8 (128 + v % 64)] := by unfold enc; rw [if_neg h1, if_pos h2]
    have a0 : ((u8 (192 + v / 64)).toNat : Int) = 192 + (v : Int) / 64 := by (rw [u8_nat _ (by omega)]) <;> omega
    have a1 : ((u8 (128 + v % 64)).toNat : Int) = 128 + (v : Int) % 64 := by (rw [u8_nat _ (by omega)]) <;> omega
    have hq : #[Value.int .u8 (192 + (v : Int) / 64), Value.int .u8 (128 + (v : Int) % 64)] = bytesA (enc v) := by rw [e1]; simp only [bytesA, List.map_cons, List.map_nil, a0, a1]
    have hcv : (convert 26 9 (.slice (some ⟨w.heap.size, 0, none⟩) 2 2)).run Tryz.prog (w.alloc (.cells #[Value.int .u8 (192 + (v : Int) / 64), Value.int .u8 (128 + (v : Int) % 64)] 5)) = .ok (.string ⟨(enc v).toArray⟩) (w.alloc (.cells #[Value.int .u8 (192 + (v : Int) / 64), Value.int .u8 (128 + (v : Int) % 64)] 5)) := by
      have h9 := str_new14 w (enc v)
      rw [← hq, show (enc v).length = 2 by rw [e1]; rfl] at h9
      exact h9
    generalize (enc v).toArray = EA at hcv ⊢
    clear e1 hq a0 a1
    go_enter Tryz.func108, Tryz.ntmps108
    go_wp2
    go_ret
    exact ⟨rfl, below_alloc _ _⟩
  by_cases h3 : v < 65536
  · have i0 : ¬ (v : Int) < 128 := by omega
    have i1 : ¬ (v : Int) < 2048 := by omega
    have j : (v : Int) < 65536 := by omega
    have e1 : enc v = [u8 (224 + v / 4096), u8 (128 + v / 64 % 64), u8 (128 + v % 64)] := by unfold enc; rw [if_neg h1, if_neg h2, if_pos h3]
    have a0 : ((u8 (224 + v / 4096)).toNat : Int) = 224 + (v : Int) / 4096 := by (rw [u8_nat _ (by omega)]) <;> omega
    have a1 : ((u8 (128 + v / 64 % 64)).toNat : Int) = 128 + (v : Int) / 64 % 64 := by (rw [u8_nat _ (by omega)]) <;> omega
    have a2 : ((u8 (128 + v % 64)).toNat : Int) = 128 + (v : Int) % 64 := by (rw [u8_nat _ (by omega)]) <;> omega
    have hq : #[Value.int .u8 (224 + (v : Int) / 4096), Value.int .u8 (128 + (v : Int) / 64 % 64), Value.int .u8 (128 + (v : Int) % 64)] = bytesA (enc v) := by rw [e1]; simp only [bytesA, List.map_cons, List.map_nil, a0, a1, a2]
    have hcv : (convert 26 9 (.slice (some ⟨w.heap.size, 0, none⟩) 3 3)).run Tryz.prog (w.alloc (.cells #[Value.int .u8 (224 + (v : Int) / 4096), Value.int .u8 (128 + (v : Int) / 64 % 64), Value.int .u8 (128 + (v : Int) % 64)] 5)) = .ok (.string ⟨(enc v).toArray⟩) (w.alloc (.cells #[Value.int .u8 (224 + (v : Int) / 4096), Value.int .u8 (128 + (v : Int) / 64 % 64), Value.int .u8 (128 + (v : Int) % 64)] 5)) := by
      have h9 := str_new14 w (enc v)
      rw [← hq, show (enc v).length = 3 by rw [e1]; rfl] at h9
      exact h9
    generalize (enc v).toArray = EA at hcv ⊢
    clear e1 hq a0 a1 a2
    go_enter Tryz.func108, Tryz.ntmps108
    go_wp2
    go_ret
    exact ⟨rfl, below_alloc _ _⟩
  have i0 : ¬ (v : Int) < 128 := by omega
  have i1 : ¬ (v : Int) < 2048 := by omega
  have i2 : ¬ (v : Int) < 65536 := by omega
  have e1 : enc v = [u8 (240 + v / 262144), u8 (128 + v / 4096 % 64), u8 (128 + v / 64 % 64), u8 (128 + v % 64)] := by unfold enc; rw [if_neg h1, if_neg h2, if_neg h3]
  have a0 : ((u8 (240 + v / 262144)).toNat : Int) = 240 + (v : Int) / 262144 := by (rw [u8_nat _ (by omega)]) <;> omega
  have a1 : ((u8 (128 + v / 4096 % 64)).toNat : Int) = 128 + (v : Int) / 4096 % 64 := by (rw [u8_nat _ (by omega)]) <;> omega
  have a2 : ((u8 (128 + v / 64 % 64)).toNat : Int) = 128 + (v : Int) / 64 % 64 := by (rw [u8_nat _ (by omega)]) <;> omega
  have a3 : ((u8 (128 + v % 64)).toNat : Int) = 128 + (v : Int) % 64 := by (rw [u8_nat _ (by omega)]) <;> omega
  have hq : #[Value.int .u8 (240 + (v : Int) / 262144), Value.int .u8 (128 + (v : Int) / 4096 % 64), Value.int .u8 (128 + (v : Int) / 64 % 64), Value.int .u8 (128 + (v : Int) % 64)] = bytesA (enc v) := by rw [e1]; simp only [bytesA, List.map_cons, List.map_nil, a0, a1, a2, a3]
  have hcv : (convert 26 9 (.slice (some ⟨w.heap.size, 0, none⟩) 4 4)).run Tryz.prog (w.alloc (.cells #[Value.int .u8 (240 + (v : Int) / 262144), Value.int .u8 (128 + (v : Int) / 4096 % 64), Value.int .u8 (128 + (v : Int) / 64 % 64), Value.int .u8 (128 + (v : Int) % 64)] 5)) = .ok (.string ⟨(enc v).toArray⟩) (w.alloc (.cells #[Value.int .u8 (240 + (v : Int) / 262144), Value.int .u8 (128 + (v : Int) / 4096 % 64), Value.int .u8 (128 + (v : Int) / 64 % 64), Value.int .u8 (128 + (v : Int) % 64)] 5)) := by
    have h9 := str_new14 w (enc v)
    rw [← hq, show (enc v).length = 4 by rw [e1]; rfl] at h9
    exact h9
  generalize (enc v).toArray = EA at hcv ⊢
  clear e1 hq a0 a1 a2 a3
  go_enter Tryz.func108, Tryz.ntmps108
  go_wp2
  go_ret
  exact ⟨rfl, below_alloc _ _⟩
end Go.Proofs.YtddmmmfpdmejbaaGreatDoor
namespace Go.Proofs.YtddmmmfpdmejbaaGreatDoor
open Go.RowKit

/-! assayref14.Rune -/
def bdR : Nat → Nat
  | 0 => 32
  | k + 1 => 64 * bdR k
theorem bdR_le (k : Nat) (h : k ≤ 3) : bdR k ≤ 8388608 := by
  rcases (by omega : k = 0 ∨ k = 1 ∨ k = 2 ∨ k = 3) with rfl | rfl | rfl | rfl <;> decide
def rnP (l : List UInt8) (w : World) (e : Ending) (w' : World) : Prop := e = .returned (.tuple #[.int .i64 ((rn l).1 : Int), .int .i64 ((rn l).2 : Int)]) ∧ Below w.heap.size w w'
theorem rnP_of {l : List UInt8} {w w' : World} {a b : Nat} (h : rn l = (a, b)) (hb : Below w.heap.size w w') : rnP l w (.returned (.tuple #[.int .i64 (a : Int), .int .i64 (b : Int)])) w' := ⟨by rw [h], hb⟩
set_option linter.unusedSimpArgs false in
set_option maxRecDepth 100000 in
set_option maxHeartbeats 4000000 in
theorem refRune_any (s : ByteArray) (w : World) (h63 : s.size ≤ 9223372036854775807) : Calls Tryz.prog 88 #[.string s] w fun e w' => rnP (lS s) w e w' := by
  have hls := lS_len s
  obtain ⟨l, hl⟩ : ∃ q, lS s = q := ⟨_, rfl⟩
  rw [hl] at hls ⊢
  obtain ⟨p, hp⟩ : ∃ q, s.size = q := ⟨_, rfl⟩
  rw [hp] at hls h63
  have bW := below_alloc w (.cells #[Value.int .i64 0, Value.int .i64 0, Value.int .i64 128, Value.int .i64 2048, Value.int .i64 65536] 3)
  have hce : ∀ i, (w.alloc (.cells #[Value.int .i64 0, Value.int .i64 0, Value.int .i64 128, Value.int .i64 2048, Value.int .i64 65536] 3)).cell? ⟨w.heap.size, i, none⟩ = (#[Value.int .i64 0, Value.int .i64 0, Value.int .i64 128, Value.int .i64 2048, Value.int .i64 65536] : Array Value)[i]? := fun i => cell_of_row _ _ i _ _ _ (heap_alloc_last w _)
  have k2 := hce 2
  have k3 := hce 3
  have k4 := hce 4
  clear hce
  have hgw : w.heap.size < (w.alloc (.cells #[Value.int .i64 0, Value.int .i64 0, Value.int .i64 128, Value.int .i64 2048, Value.int .i64 65536] 3)).heap.size := by simp
  obtain ⟨g, hg⟩ : ∃ q, w.heap.size = q := ⟨_, rfl⟩
  have HGW : Hid (w.heap.size = g) := hg
  go_enter Tryz.func88, Tryz.ntmps88
  go_upto_region 2 with fail
  simp only [hg] at k2 k3 k4 hgw ⊢
  clear hg
  generalize w.alloc (.cells #[Value.int .i64 0, Value.int .i64 0, Value.int .i64 128, Value.int .i64 2048, Value.int .i64 65536] 3) = X at bW k2 k3 k4 hgw ⊢
  have k2' : X.cell? ⟨g, 2, none⟩ = some (.int .i64 128) := k2
  have k3' : X.cell? ⟨g, 3, none⟩ = some (.int .i64 2048) := k3
  have k4' : X.cell? ⟨g, 4, none⟩ = some (.int .i64 65536) := k4
  clear k2 k3 k4
  by_cases h0 : p = 0
  · have HP : Hid (rnP l w (.returned (.tuple #[.int .i64 0, .int .i64 0])) X) := rnP_of (a := 0) (b := 0) (by unfold rn; rw [if_pos (by omega)]) bW
    have i0 : ((p : Int) == 0) = true := beq_iff_eq.2 (by omega)
    clear k2' k3' k4' h0
    go_wp2
    go_ret2
    exact HP.out
  have i0 : ((p : Int) == 0) = false := beq_eq_false_iff_ne.2 (by omega)
  have i9 : (0 : Int) < (p : Int) := by omega
  have hat : ∀ W, (sAt (.string s) (.int .i64 0)).run Tryz.prog W = .ok (.value (.int .u8 ((lB l 0).toNat : Int))) W := fun W => by
    have := run_sAt W s 0 (by rw [hp]; omega)
    rw [hl] at this; exact this
  have HRN : Hid (rn l = (if (lB l 0).toNat < 128 then ((lB l 0).toNat, 1) else if 192 ≤ (lB l 0).toNat ∧ (lB l 0).toNat < 224 then rnN l 2 ((lB l 0).toNat - 192) else if 224 ≤ (lB l 0).toNat ∧ (lB l 0).toNat < 240 then rnN l 3 ((lB l 0).toNat - 224) else if 240 ≤ (lB l 0).toNat ∧ (lB l 0).toNat < 248 then rnN l 4 ((lB l 0).toNat - 240) else (0, 0))) := by
    show rn l = _
    rw [rn, if_neg (by omega)]
  have hb8 := (lB l 0).toNat_lt
  obtain ⟨c, hc⟩ : ∃ q, (lB l 0).toNat = q := ⟨_, rfl⟩
  rw [hc] at HRN hb8
  simp only [hc] at hat
  rcases (by omega : c < 128 ∨ (128 ≤ c ∧ c < 192) ∨ (192 ≤ c ∧ c < 224) ∨ (224 ≤ c ∧ c < 240) ∨ (240 ≤ c ∧ c < 248) ∨ 248 ≤ c) with hcl | hcl | hcl | hcl | hcl | hcl
  · have f0 : (c : Int) < 128 := by omega
    have f1 : ¬ (192 : Int) ≤ (c : Int) := by omega
    have f2 : (c : Int) < 224 := by omega
    have f3 : ¬ (224 : Int) ≤ (c : Int) := by omega
    have f4 : (c : Int) < 240 := by omega
    have f5 : ¬ (240 : Int) ≤ (c : Int) := by omega
    have f6 : (c : Int) < 248 := by omega
    have HP : Hid (rnP l w (.returned (.tuple #[.int .i64 (c : Int), .int .i64 1])) X) := rnP_of (a := c) (b := 1) (by rw [HRN.out, if_pos (by omega)]) bW
    clear k2' k3' k4' HRN
    go_wp2
    go_ret2
    exact HP.out
  · have f0 : ¬ (c : Int) < 128 := by omega
    have f1 : ¬ (192 : Int) ≤ (c : Int) := by omega
    have f2 : (c : Int) < 224 := by omega
    have f3 : ¬ (224 : Int) ≤ (c : Int) := by omega
    have f4 : (c : Int) < 240 := by omega
    have f5 : ¬ (240 : Int) ≤ (c : Int) := by omega
    have f6 : (c : Int) < 248 := by omega
    have HP : Hid (rnP l w (.returned (.tuple #[.int .i64 0, .int .i64 0])) X) := rnP_of (a := 0) (b := 0) (by rw [HRN.out]; repeat rw [if_neg (by omega)]) bW
    clear k2' k3' k4' HRN
    go_wp2
    go_ret2
    exact HP.out
  · have f0 : ¬ (c : Int) < 128 := by omega
    have f1 : (192 : Int) ≤ (c : Int) := by omega
    have f2 : (c : Int) < 224 := by omega
    have f3 : ¬ (224 : Int) ≤ (c : Int) := by omega
    have f4 : (c : Int) < 240 := by omega
    have f5 : ¬ (240 : Int) ≤ (c : Int) := by omega
    have f6 : (c : Int) < 248 := by omega
    have HN : Hid (rn l = rnN l 2 (c - 192)) := by
      show _ = _
      rw [HRN.out]
      rw [if_neg (by omega), if_pos (by omega)]
    clear HRN
    by_cases hn : p < 2
    · have j0 : (p : Int) < 2 := by omega
      have HP : Hid (rnP l w (.returned (.tuple #[.int .i64 0, .int .i64 0])) X) := rnP_of (a := 0) (b := 0) (by rw [HN.out]; unfold rnN; rw [if_pos (by omega)]) bW
      clear k2' k3' k4' HN
      go_wp2
      go_ret2
      exact HP.out
    have j0 : ¬ (p : Int) < 2 := by omega
    have HM : Hid (rn l = (match cvR l (c - 192) 1 with | none => (0, 0) | some v => if okR 2 v = true then (v, 2) else (0, 0))) := by
      show _ = _
      rw [HN.out, rnN, if_neg (by omega)]
      rfl
    clear HN
    obtain ⟨v0, hv0⟩ : ∃ q, c - 192 = q := ⟨_, rfl⟩
    have hv32 : v0 < 32 := by omega
    have hvi : (c : Int) - 192 = (v0 : Int) := by omega
    rw [hv0] at HM
    clear hv0
    go_wp2_with fail
    clear hat f0 f1 f2 f3 f4 f5 f6 hcl
    go_loopw [6, 7] (fun vv iv wr => ∃ k v : Nat, (1 ≤ k ∧ k ≤ 2) ∧ vv = .int .i64 v ∧ iv = .int .i64 k ∧ v < bdR (k - 1) ∧ Hid (cvR l v0 (k - 1) = some v) ∧ wr = X) (fun _ iv _ => 2 - (intOf iv).toNat)
    case atStart => exact ⟨1, v0, by omega, by first | rfl | rw [hvi], rfl, hv32, rfl, rfl⟩
    case round =>
      obtain ⟨k, v, ⟨hk1, hk2⟩, rfl, rfl, hvb, HV, rfl⟩ := hrel
      have hbd := bdR_le (k - 1) (by omega)
      by_cases hlt : k < 2
      · have q0 : (0 : Int) ≤ (k : Int) := by omega
        have q1 : (k : Int) < 2 := by omega
        have q2 : (k : Int) < (p : Int) := by omega
        have hd8 := (lB l k).toNat_lt
        have HCV : Hid (cvR l v0 k = if isC (lB l k) = true then some (64 * v + (lB l k).toNat - 128) else none) := by
          obtain ⟨j, rfl⟩ : ∃ j, k = j + 1 := ⟨k - 1, by omega⟩
          show cvR l v0 (j + 1) = _
          rw [cvR, show cvR l v0 j = some v from HV.out]
        have HBD : Hid (bdR k = 64 * bdR (k - 1)) := by
          obtain ⟨j, rfl⟩ : ∃ j, k = j + 1 := ⟨k - 1, by omega⟩
          rfl
        have HNO : Hid (cvR l v0 k = none → rn l = (0, 0)) := fun h => by
          have h2 : cvR l v0 1 = none := by
            obtain rfl : k = 1 := by omega
            exact h
        
          rw [HM.out, h2]
        obtain ⟨d, hd⟩ : ∃ q, (lB l k).toNat = q := ⟨_, rfl⟩
        have HIC : Hid (isC (lB l k) = decide (128 ≤ d ∧ d ≤ 191)) := by show _ = _; unfold isC; rw [hd]
        rw [hd] at HCV hd8
        clear HV
        by_cases hok : 128 ≤ d ∧ d ≤ 191
        · have y0 : ¬ (d : Int) < 128 := by omega
          have y1 : ¬ (191 : Int) < (d : Int) := by omega
          obtain ⟨v1, hv1⟩ : ∃ q, 64 * v + d - 128 = q := ⟨_, rfl⟩
          have y2 : (64 : Int) * (v : Int) + (d : Int) - 128 = (v1 : Int) := by omega
          have HV2 : Hid (cvR l v0 (k + 1 - 1) = some v1) := by
            show cvR l v0 (k + 1 - 1) = _
            rw [show k + 1 - 1 = k by omega, HCV.out, HIC.out, decide_eq_true hok, if_pos rfl, hv1]
          have HB2 : Hid (v1 < bdR (k + 1 - 1)) := by show _ < _; rw [show k + 1 - 1 = k by omega, HBD.out]; omega
          clear HCV HBD HNO HIC hv1 hok
          go_wp2
          go_roundw
          case rel =>

            exact ⟨k + 1, v1, by omega, by first | rfl | go_num, by go_num, HB2.out, HV2, by trivial⟩
          case measure => simp [intOf]; omega
        · have HP : Hid (rnP l w (.returned (.tuple #[.int .i64 0, .int .i64 0])) wr) := rnP_of (a := 0) (b := 0) (HNO.out (by rw [HCV.out, HIC.out, decide_eq_false hok]; rfl)) bW
          clear HCV HBD HNO HIC
          by_cases hl8 : d < 128
          · have y0 : (d : Int) < 128 := by omega
            clear hok
            go_wp2
            go_ret2
            exact HP.out
          · have y0 : ¬ (d : Int) < 128 := by omega
            have y1 : (191 : Int) < (d : Int) := by omega
            clear hok
            go_wp2
            go_ret2
            exact HP.out
      · obtain rfl : k = 2 := by omega
        have HF : Hid (rn l = if okR 2 v = true then (v, 2) else (0, 0)) := by show _ = _; rw [HM.out, show cvR l v0 1 = some v from HV.out]
        have HOK : Hid (okR 2 v = decide (128 ≤ v ∧ v ≤ 1114111 ∧ ¬ (55296 ≤ v ∧ v ≤ 57343))) := rfl
        clear HV HM hlt
        by_cases hok : 128 ≤ v ∧ v ≤ 1114111 ∧ ¬ (55296 ≤ v ∧ v ≤ 57343)
        · have HP : Hid (rnP l w (.returned (.tuple #[.int .i64 (v : Int), .int .i64 2])) wr) := rnP_of (a := v) (b := 2) (by rw [HF.out, HOK.out, decide_eq_true hok, if_pos rfl]) bW
          have y0 : ¬ (v : Int) < 128 := by omega
          have y1 : ¬ (1114111 : Int) < (v : Int) := by omega
          by_cases hs : 55296 ≤ v
          · have y2 : (55296 : Int) ≤ (v : Int) := by omega
            have y3 : ¬ (v : Int) ≤ 57343 := by omega
            clear hok HF HOK
            go_wp2
            go_ret2
            exact HP.out
          · have y2 : ¬ (55296 : Int) ≤ (v : Int) := by omega
            clear hok HF HOK
            go_wp2
            go_ret2
            exact HP.out
        · have HP : Hid (rnP l w (.returned (.tuple #[.int .i64 0, .int .i64 0])) wr) := rnP_of (a := 0) (b := 0) (by rw [HF.out, HOK.out, decide_eq_false hok]; rfl) bW
          clear HF HOK
          by_cases ha : v < 128
          · have y0 : (v : Int) < 128 := by omega
            clear hok
            go_wp2
            go_ret2
            exact HP.out
          · have y0 : ¬ (v : Int) < 128 := by omega
            by_cases hb : 1114111 < v
            · have y1 : (1114111 : Int) < (v : Int) := by omega
              clear hok
              go_wp2
              go_ret2
              exact HP.out
            · have y1 : ¬ (1114111 : Int) < (v : Int) := by omega
              have y2 : (55296 : Int) ≤ (v : Int) := by omega
              have y3 : (v : Int) ≤ 57343 := by omega
              clear hok
              go_wp2
              go_ret2
              exact HP.out
  · have f0 : ¬ (c : Int) < 128 := by omega
    have f1 : (192 : Int) ≤ (c : Int) := by omega
    have f2 : ¬ (c : Int) < 224 := by omega
    have f3 : (224 : Int) ≤ (c : Int) := by omega
    have f4 : (c : Int) < 240 := by omega
    have f5 : ¬ (240 : Int) ≤ (c : Int) := by omega
    have f6 : (c : Int) < 248 := by omega
    have HN : Hid (rn l = rnN l 3 (c - 224)) := by
      show _ = _
      rw [HRN.out]
      rw [if_neg (by omega), if_neg (by omega), if_pos (by omega)]
    clear HRN
    by_cases hn : p < 3
    · have j0 : (p : Int) < 3 := by omega
      have HP : Hid (rnP l w (.returned (.tuple #[.int .i64 0, .int .i64 0])) X) := rnP_of (a := 0) (b := 0) (by rw [HN.out]; unfold rnN; rw [if_pos (by omega)]) bW
      clear k2' k3' k4' HN
      go_wp2
      go_ret2
      exact HP.out
    have j0 : ¬ (p : Int) < 3 := by omega
    have HM : Hid (rn l = (match cvR l (c - 224) 2 with | none => (0, 0) | some v => if okR 3 v = true then (v, 3) else (0, 0))) := by
      show _ = _
      rw [HN.out, rnN, if_neg (by omega)]
      rfl
    clear HN
    obtain ⟨v0, hv0⟩ : ∃ q, c - 224 = q := ⟨_, rfl⟩
    have hv32 : v0 < 32 := by omega
    have hvi : (c : Int) - 224 = (v0 : Int) := by omega
    rw [hv0] at HM
    clear hv0
    go_wp2_with fail
    clear hat f0 f1 f2 f3 f4 f5 f6 hcl
    go_loopw [6, 7] (fun vv iv wr => ∃ k v : Nat, (1 ≤ k ∧ k ≤ 3) ∧ vv = .int .i64 v ∧ iv = .int .i64 k ∧ v < bdR (k - 1) ∧ Hid (cvR l v0 (k - 1) = some v) ∧ wr = X) (fun _ iv _ => 3 - (intOf iv).toNat)
    case atStart => exact ⟨1, v0, by omega, by first | rfl | rw [hvi], rfl, hv32, rfl, rfl⟩
    case round =>
      obtain ⟨k, v, ⟨hk1, hk2⟩, rfl, rfl, hvb, HV, rfl⟩ := hrel
      have hbd := bdR_le (k - 1) (by omega)
      by_cases hlt : k < 3
      · have q0 : (0 : Int) ≤ (k : Int) := by omega
        have q1 : (k : Int) < 3 := by omega
        have q2 : (k : Int) < (p : Int) := by omega
        have hd8 := (lB l k).toNat_lt
        have HCV : Hid (cvR l v0 k = if isC (lB l k) = true then some (64 * v + (lB l k).toNat - 128) else none) := by
          obtain ⟨j, rfl⟩ : ∃ j, k = j + 1 := ⟨k - 1, by omega⟩
          show cvR l v0 (j + 1) = _
          rw [cvR, show cvR l v0 j = some v from HV.out]
        have HBD : Hid (bdR k = 64 * bdR (k - 1)) := by
          obtain ⟨j, rfl⟩ : ∃ j, k = j + 1 := ⟨k - 1, by omega⟩
          rfl
        have HNO : Hid (cvR l v0 k = none → rn l = (0, 0)) := fun h => by
          have h2 : cvR l v0 2 = none := by
            rcases (by omega : k = 1 ∨ k = 2) with rfl | rfl
            all_goals simp [cvR] at h ⊢
            all_goals (first | (simp only [h]; done) | simp_all)
          rw [HM.out, h2]
        obtain ⟨d, hd⟩ : ∃ q, (lB l k).toNat = q := ⟨_, rfl⟩
        have HIC : Hid (isC (lB l k) = decide (128 ≤ d ∧ d ≤ 191)) := by show _ = _; unfold isC; rw [hd]
        rw [hd] at HCV hd8
        clear HV
        by_cases hok : 128 ≤ d ∧ d ≤ 191
        · have y0 : ¬ (d : Int) < 128 := by omega
          have y1 : ¬ (191 : Int) < (d : Int) := by omega
          obtain ⟨v1, hv1⟩ : ∃ q, 64 * v + d - 128 = q := ⟨_, rfl⟩
          have y2 : (64 : Int) * (v : Int) + (d : Int) - 128 = (v1 : Int) := by omega
          have HV2 : Hid (cvR l v0 (k + 1 - 1) = some v1) := by
            show cvR l v0 (k + 1 - 1) = _
            rw [show k + 1 - 1 = k by omega, HCV.out, HIC.out, decide_eq_true hok, if_pos rfl, hv1]
          have HB2 : Hid (v1 < bdR (k + 1 - 1)) := by show _ < _; rw [show k + 1 - 1 = k by omega, HBD.out]; omega
          clear HCV HBD HNO HIC hv1 hok
          go_wp2
          go_roundw
          case rel =>

            exact ⟨k + 1, v1, by omega, by first | rfl | go_num, by go_num, HB2.out, HV2, by trivial⟩
          case measure => simp [intOf]; omega
        · have HP : Hid (rnP l w (.returned (.tuple #[.int .i64 0, .int .i64 0])) wr) := rnP_of (a := 0) (b := 0) (HNO.out (by rw [HCV.out, HIC.out, decide_eq_false hok]; rfl)) bW
          clear HCV HBD HNO HIC
          by_cases hl8 : d < 128
          · have y0 : (d : Int) < 128 := by omega
            clear hok
            go_wp2
            go_ret2
            exact HP.out
          · have y0 : ¬ (d : Int) < 128 := by omega
            have y1 : (191 : Int) < (d : Int) := by omega
            clear hok
            go_wp2
            go_ret2
            exact HP.out
      · obtain rfl : k = 3 := by omega
        have HF : Hid (rn l = if okR 3 v = true then (v, 3) else (0, 0)) := by show _ = _; rw [HM.out, show cvR l v0 2 = some v from HV.out]
        have HOK : Hid (okR 3 v = decide (2048 ≤ v ∧ v ≤ 1114111 ∧ ¬ (55296 ≤ v ∧ v ≤ 57343))) := rfl
        clear HV HM hlt
        by_cases hok : 2048 ≤ v ∧ v ≤ 1114111 ∧ ¬ (55296 ≤ v ∧ v ≤ 57343)
        · have HP : Hid (rnP l w (.returned (.tuple #[.int .i64 (v : Int), .int .i64 3])) wr) := rnP_of (a := v) (b := 3) (by rw [HF.out, HOK.out, decide_eq_true hok, if_pos rfl]) bW
          have y0 : ¬ (v : Int) < 2048 := by omega
          have y1 : ¬ (1114111 : Int) < (v : Int) := by omega
          by_cases hs : 55296 ≤ v
          · have y2 : (55296 : Int) ≤ (v : Int) := by omega
            have y3 : ¬ (v : Int) ≤ 57343 := by omega
            clear hok HF HOK
            go_wp2
            go_ret2
            exact HP.out
          · have y2 : ¬ (55296 : Int) ≤ (v : Int) := by omega
            clear hok HF HOK
            go_wp2
            go_ret2
            exact HP.out
        · have HP : Hid (rnP l w (.returned (.tuple #[.int .i64 0, .int .i64 0])) wr) := rnP_of (a := 0) (b := 0) (by rw [HF.out, HOK.out, decide_eq_false hok]; rfl) bW
          clear HF HOK
          by_cases ha : v < 2048
          · have y0 : (v : Int) < 2048 := by omega
            clear hok
            go_wp2
            go_ret2
            exact HP.out
          · have y0 : ¬ (v : Int) < 2048 := by omega
            by_cases hb : 1114111 < v
            · have y1 : (1114111 : Int) < (v : Int) := by omega
              clear hok
              go_wp2
              go_ret2
              exact HP.out
            · have y1 : ¬ (1114111 : Int) < (v : Int) := by omega
              have y2 : (55296 : Int) ≤ (v : Int) := by omega
              have y3 : (v : Int) ≤ 57343 := by omega
              clear hok
              go_wp2
              go_ret2
              exact HP.out
  · have f0 : ¬ (c : Int) < 128 := by omega
    have f1 : (192 : Int) ≤ (c : Int) := by omega
    have f2 : ¬ (c : Int) < 224 := by omega
    have f3 : (224 : Int) ≤ (c : Int) := by omega
    have f4 : ¬ (c : Int) < 240 := by omega
    have f5 : (240 : Int) ≤ (c : Int) := by omega
    have f6 : (c : Int) < 248 := by omega
    have HN : Hid (rn l = rnN l 4 (c - 240)) := by
      show _ = _
      rw [HRN.out]
      rw [if_neg (by omega), if_neg (by omega), if_neg (by omega), if_pos (by omega)]
    clear HRN
    by_cases hn : p < 4
    · have j0 : (p : Int) < 4 := by omega
      have HP : Hid (rnP l w (.returned (.tuple #[.int .i64 0, .int .i64 0])) X) := rnP_of (a := 0) (b := 0) (by rw [HN.out]; unfold rnN; rw [if_pos (by omega)]) bW
      clear k2' k3' k4' HN
      go_wp2
      go_ret2
      exact HP.out
    have j0 : ¬ (p : Int) < 4 := by omega
    have HM : Hid (rn l = (match cvR l (c - 240) 3 with | none => (0, 0) | some v => if okR 4 v = true then (v, 4) else (0, 0))) := by
      show _ = _
      rw [HN.out, rnN, if_neg (by omega)]
      rfl
    clear HN
    obtain ⟨v0, hv0⟩ : ∃ q, c - 240 = q := ⟨_, rfl⟩
    have hv32 : v0 < 32 := by omega
    have hvi : (c : Int) - 240 = (v0 : Int) := by omega
    rw [hv0] at HM
    clear hv0
    go_wp2_with fail
    clear hat f0 f1 f2 f3 f4 f5 f6 hcl
    go_loopw [6, 7] (fun vv iv wr => ∃ k v : Nat, (1 ≤ k ∧ k ≤ 4) ∧ vv = .int .i64 v ∧ iv = .int .i64 k ∧ v < bdR (k - 1) ∧ Hid (cvR l v0 (k - 1) = some v) ∧ wr = X) (fun _ iv _ => 4 - (intOf iv).toNat)
    case atStart => exact ⟨1, v0, by omega, by first | rfl | rw [hvi], rfl, hv32, rfl, rfl⟩
    case round =>
      obtain ⟨k, v, ⟨hk1, hk2⟩, rfl, rfl, hvb, HV, rfl⟩ := hrel
      have hbd := bdR_le (k - 1) (by omega)
      by_cases hlt : k < 4
      · have q0 : (0 : Int) ≤ (k : Int) := by omega
        have q1 : (k : Int) < 4 := by omega
        have q2 : (k : Int) < (p : Int) := by omega
        have hd8 := (lB l k).toNat_lt
        have HCV : Hid (cvR l v0 k = if isC (lB l k) = true then some (64 * v + (lB l k).toNat - 128) else none) := by
          obtain ⟨j, rfl⟩ : ∃ j, k = j + 1 := ⟨k - 1, by omega⟩
          show cvR l v0 (j + 1) = _
          rw [cvR, show cvR l v0 j = some v from HV.out]
        have HBD : Hid (bdR k = 64 * bdR (k - 1)) := by
          obtain ⟨j, rfl⟩ : ∃ j, k = j + 1 := ⟨k - 1, by omega⟩
          rfl
        have HNO : Hid (cvR l v0 k = none → rn l = (0, 0)) := fun h => by
          have h2 : cvR l v0 3 = none := by
            rcases (by omega : k = 1 ∨ k = 2 ∨ k = 3) with rfl | rfl | rfl
            all_goals simp [cvR] at h ⊢
            all_goals (first | (simp only [h]; done) | simp_all)
          rw [HM.out, h2]
        obtain ⟨d, hd⟩ : ∃ q, (lB l k).toNat = q := ⟨_, rfl⟩
        have HIC : Hid (isC (lB l k) = decide (128 ≤ d ∧ d ≤ 191)) := by show _ = _; unfold isC; rw [hd]
        rw [hd] at HCV hd8
        clear HV
        by_cases hok : 128 ≤ d ∧ d ≤ 191
        · have y0 : ¬ (d : Int) < 128 := by omega
          have y1 : ¬ (191 : Int) < (d : Int) := by omega
          obtain ⟨v1, hv1⟩ : ∃ q, 64 * v + d - 128 = q := ⟨_, rfl⟩
          have y2 : (64 : Int) * (v : Int) + (d : Int) - 128 = (v1 : Int) := by omega
          have HV2 : Hid (cvR l v0 (k + 1 - 1) = some v1) := by
            show cvR l v0 (k + 1 - 1) = _
            rw [show k + 1 - 1 = k by omega, HCV.out, HIC.out, decide_eq_true hok, if_pos rfl, hv1]
          have HB2 : Hid (v1 < bdR (k + 1 - 1)) := by show _ < _; rw [show k + 1 - 1 = k by omega, HBD.out]; omega
          clear HCV HBD HNO HIC hv1 hok
          go_wp2
          go_roundw
          case rel =>

            exact ⟨k + 1, v1, by omega, by first | rfl | go_num, by go_num, HB2.out, HV2, by trivial⟩
          case measure => simp [intOf]; omega
        · have HP : Hid (rnP l w (.returned (.tuple #[.int .i64 0, .int .i64 0])) wr) := rnP_of (a := 0) (b := 0) (HNO.out (by rw [HCV.out, HIC.out, decide_eq_false hok]; rfl)) bW
          clear HCV HBD HNO HIC
          by_cases hl8 : d < 128
          · have y0 : (d : Int) < 128 := by omega
            clear hok
            go_wp2
            go_ret2
            exact HP.out
          · have y0 : ¬ (d : Int) < 128 := by omega
            have y1 : (191 : Int) < (d : Int) := by omega
            clear hok
            go_wp2
            go_ret2
            exact HP.out
      · obtain rfl : k = 4 := by omega
        have HF : Hid (rn l = if okR 4 v = true then (v, 4) else (0, 0)) := by show _ = _; rw [HM.out, show cvR l v0 3 = some v from HV.out]
        have HOK : Hid (okR 4 v = decide (65536 ≤ v ∧ v ≤ 1114111 ∧ ¬ (55296 ≤ v ∧ v ≤ 57343))) := rfl
        clear HV HM hlt
        by_cases hok : 65536 ≤ v ∧ v ≤ 1114111 ∧ ¬ (55296 ≤ v ∧ v ≤ 57343)
        · have HP : Hid (rnP l w (.returned (.tuple #[.int .i64 (v : Int), .int .i64 4])) wr) := rnP_of (a := v) (b := 4) (by rw [HF.out, HOK.out, decide_eq_true hok, if_pos rfl]) bW
          have y0 : ¬ (v : Int) < 65536 := by omega
          have y1 : ¬ (1114111 : Int) < (v : Int) := by omega
          by_cases hs : 55296 ≤ v
          · have y2 : (55296 : Int) ≤ (v : Int) := by omega
            have y3 : ¬ (v : Int) ≤ 57343 := by omega
            clear hok HF HOK
            go_wp2
            go_ret2
            exact HP.out
          · have y2 : ¬ (55296 : Int) ≤ (v : Int) := by omega
            clear hok HF HOK
            go_wp2
            go_ret2
            exact HP.out
        · have HP : Hid (rnP l w (.returned (.tuple #[.int .i64 0, .int .i64 0])) wr) := rnP_of (a := 0) (b := 0) (by rw [HF.out, HOK.out, decide_eq_false hok]; rfl) bW
          clear HF HOK
          by_cases ha : v < 65536
          · have y0 : (v : Int) < 65536 := by omega
            clear hok
            go_wp2
            go_ret2
            exact HP.out
          · have y0 : ¬ (v : Int) < 65536 := by omega
            by_cases hb : 1114111 < v
            · have y1 : (1114111 : Int) < (v : Int) := by omega
              clear hok
              go_wp2
              go_ret2
              exact HP.out
            · have y1 : ¬ (1114111 : Int) < (v : Int) := by omega
              have y2 : (55296 : Int) ≤ (v : Int) := by omega
              have y3 : (v : Int) ≤ 57343 := by omega
              clear hok
              go_wp2
              go_ret2
              exact HP.out
  · have f0 : ¬ (c : Int) < 128 := by omega
    have f1 : (192 : Int) ≤ (c : Int) := by omega
    have f2 : ¬ (c : Int) < 224 := by omega
    have f3 : (224 : Int) ≤ (c : Int) := by omega
    have f4 : ¬ (c : Int) < 240 := by omega
    have f5 : (240 : Int) ≤ (c : Int) := by omega
    have f6 : ¬ (c : Int) < 248 := by omega
    have HP : Hid (rnP l w (.returned (.tuple #[.int .i64 0, .int .i64 0])) X) := rnP_of (a := 0) (b := 0) (by rw [HRN.out]; repeat rw [if_neg (by omega)]) bW
    clear k2' k3' k4' HRN
    go_wp2
    go_ret2
    exact HP.out
end Go.Proofs.YtddmmmfpdmejbaaGreatDoor
namespace Go.Proofs.YtddmmmfpdmejbaaGreatDoor
open Go.RowKit

/-! assayref14.quoted -/
theorem lS_eq {s : ByteArray} {l : List UInt8} (h : lS s = l) : s = ⟨l.toArray⟩ := lS_inj (h.trans (lS_mk l).symm)
def quoR (v : Nat) : Option Nat → List UInt8
  | some i => [92, lB qSigns i]
  | none => if v < 32 then [92, 117, 48, 48, dgC (v / 16), dgC (v % 16)] else enc v
theorem quo_R (v : Nat) : quo v = quoR v (qAt v 7 0) := by
  unfold quo
  cases qAt v 7 0 <;> rfl
theorem lS_one (s : ByteArray) (k : Nat) (h : k < s.size) : lS (s.extract k (k + 1)) = [lB (lS s) k] := by
  have hk : k < (lS s).length := by rw [lS_len]; exact h
  rw [lS_cut, show k + 1 - k = 1 by omega, List.drop_eq_getElem_cons hk]
  unfold lB
  rw [List.getElem?_eq_getElem hk]; rfl
theorem dgC_at (n : Nat) (h : n < 16) : lB [48, 49, 50, 51, 52, 53, 54, 55, 56, 57, 97, 98, 99, 100, 101, 102] n = dgC n := by
  rcases (by omega : n = 0 ∨ n = 1 ∨ n = 2 ∨ n = 3 ∨ n = 4 ∨ n = 5 ∨ n = 6 ∨ n = 7 ∨ n = 8 ∨ n = 9 ∨ n = 10 ∨ n = 11 ∨ n = 12 ∨ n = 13 ∨ n = 14 ∨ n = 15) with rfl | rfl | rfl | rfl | rfl | rfl | rfl | rfl | rfl | rfl | rfl | rfl | rfl | rfl | rfl | rfl <;> decide
theorem qRunes_at (k : Nat) (h : k < 7) : (#[Value.int .i64 34, Value.int .i64 92, Value.int .i64 8, Value.int .i64 12, Value.int .i64 10, Value.int .i64 13, Value.int .i64 9] : Array Value)[k]? = some (.int .i64 ((qRunes.getD k 0 : Nat) : Int)) := by
  rcases (by omega : k = 0 ∨ k = 1 ∨ k = 2 ∨ k = 3 ∨ k = 4 ∨ k = 5 ∨ k = 6) with rfl | rfl | rfl | rfl | rfl | rfl | rfl <;> rfl
/-- What a call that answers a string leaves. -/
def StrP (l : List UInt8) (w : World) (e : Ending) (w' : World) : Prop := (∃ S, e = .returned (.string S) ∧ lS S = l) ∧ Below w.heap.size w w'
set_option linter.unusedSimpArgs false in
set_option maxRecDepth 100000 in
set_option maxHeartbeats 4000000 in
theorem refQuoted_any (v : Nat) (hv : v ≤ 1114111) (w : World) : Calls Tryz.prog 89 #[.int .i64 (v : Int)] w fun e w' => StrP (quo v) w e w' := by
  have bX := below_alloc w (.cells #[Value.int .i64 34, Value.int .i64 92, Value.int .i64 8, Value.int .i64 12, Value.int .i64 10, Value.int .i64 13, Value.int .i64 9] 3)
  have hce : Hid (∀ i, i < 7 → (w.alloc (.cells #[Value.int .i64 34, Value.int .i64 92, Value.int .i64 8, Value.int .i64 12, Value.int .i64 10, Value.int .i64 13, Value.int .i64 9] 3)).cell? ⟨w.heap.size, i, none⟩ = some (.int .i64 ((qRunes.getD i 0 : Nat) : Int))) := fun i hi => by
    rw [cell_of_row _ _ i _ _ _ (heap_alloc_last w _)]; exact qRunes_at i hi
  obtain ⟨RQ, hRQ⟩ : ∃ q, qAt v 7 0 = q := ⟨_, rfl⟩
  have HQ : Hid (quo v = quoR v RQ) := by show quo v = _; rw [quo_R, hRQ]
  have HR0 : Hid (qAt v (7 - 0) 0 = RQ) := hRQ
  clear hRQ
  go_enter Tryz.func89, Tryz.ntmps89
  go_upto_region 2 with fail
  obtain ⟨g, hg⟩ : ∃ q, w.heap.size = q := ⟨_, rfl⟩
  rw [hg] at hce
  simp only [hg]
  clear hg
  generalize w.alloc (.cells #[Value.int .i64 34, Value.int .i64 92, Value.int .i64 8, Value.int .i64 12, Value.int .i64 10, Value.int .i64 13, Value.int .i64 9] 3) = X at bX hce ⊢
  obtain ⟨QS, hQS⟩ : ∃ q, ByteArray.mk #[34, 92, 98, 102, 110, 114, 116] = q := ⟨_, rfl⟩
  have hqz : QS.size = 7 := by rw [← hQS]; rfl
  have HQL : Hid (lS QS = qSigns) := by show _ = _; rw [← hQS]; rfl
  have HQS : Hid _ := hQS
  clear hQS
  go_upto_region 3 with fail
  rw [HQS.out]
  clear HQS
  go_wp2_with fail
  go_loopw [5] (fun iv wr => ∃ k : Nat, k ≤ 7 ∧ iv = .int .i64 k ∧ Hid (qAt v (7 - k) k = RQ) ∧ wr = X) (fun iv _ => 7 - (intOf iv).toNat)
  case atStart => exact ⟨0, by omega, rfl, HR0, rfl⟩
  case round =>
    clear HR0
    obtain ⟨k, hk, rfl, HR, rfl⟩ := hrel
    by_cases hlt : k < 7
    · have i0 : (0 : Int) ≤ (k : Int) := by omega
      have i1 : (k : Int) < 7 := by omega
      have cc := hce.out k hlt
      have HR2 : Hid ((if v = qRunes.getD k 0 then some k else qAt v (7 - (k + 1)) (k + 1)) = RQ) := by
        show _ = RQ
        rw [← HR.out, show 7 - k = (7 - (k + 1)) + 1 by omega]; rfl
      obtain ⟨r, hr⟩ : ∃ q, qRunes.getD k 0 = q := ⟨_, rfl⟩
      rw [hr] at cc HR2
      clear hr HR
      by_cases he : v = r
      · have f0 : ((v : Int) == (r : Int)) = true := beq_iff_eq.2 (by omega)
        have hsz : (QS.extract k (k + 1)).size = 1 := by rw [← lS_len, lS_one QS k (by omega)]; rfl
        have hcut : ∀ W, (sCut (.string QS) (.int .i64 (k : Int)) (.int .i64 ((k : Int) + 1))).run Tryz.prog W = .ok (.value (.string (QS.extract k (k + 1)))) W := fun W => by
          have := run_sCut W QS k (k + 1) (by omega) (by omega)
          rw [← this]; rfl
        have HP : Hid (lS (⟨#[92]⟩ ++ QS.extract k (k + 1)) = quo v) := by
          show _ = _
          have h9 := HR2.out
          rw [if_pos he] at h9
          rw [HQ.out, ← h9, lS_app, lS_one QS k (by omega), HQL.out]; rfl
        clear HR2 he
        generalize QS.extract k (k + 1) = S1 at hsz hcut HP
        go_wp2
        go_ret
        exact ⟨⟨_, rfl, HP.out⟩, bX⟩
      · have f0 : ((v : Int) == (r : Int)) = false := beq_eq_false_iff_ne.2 (by omega)
        have HR3 : Hid (qAt v (7 - (k + 1)) (k + 1) = RQ) := by
          have h9 := HR2.out
          rw [if_neg he] at h9; exact h9
        clear HR2 he
        go_wp2
        go_roundw
        case rel => exact ⟨k + 1, by omega, by go_num, HR3, by trivial⟩
        case measure => simp [intOf]; omega
    · obtain rfl : k = 7 := by omega
      have HQ2 : Hid (quo v = if v < 32 then [92, 117, 48, 48, dgC (v / 16), dgC (v % 16)] else enc v) := by
        have h9 : none = RQ := HR.out
        show _ = _
        rw [HQ.out, ← h9]; rfl
      clear HR HQ hlt
      by_cases h32 : v < 32
      · have i1 : (v : Int) < 32 := by omega
        obtain ⟨a, ha⟩ : ∃ q, v / 16 = q := ⟨_, rfl⟩
        obtain ⟨b, hb⟩ : ∃ q, v % 16 = q := ⟨_, rfl⟩
        have ia : (v : Int) / 16 = (a : Int) := by omega
        have ib : (v : Int) % 16 = (b : Int) := by omega
        have HQ3 : Hid (quo v = [92, 117, 48, 48, dgC a, dgC b]) := by show _ = _; rw [HQ2.out, if_pos h32, ha, hb]
        have ha16 : a < 16 := by omega
        have hb16 : b < 16 := by omega
        clear ha hb HQ2
        obtain ⟨DG, hDG⟩ : ∃ q, ByteArray.mk #[48, 49, 50, 51, 52, 53, 54, 55, 56, 57, 97, 98, 99, 100, 101, 102] = q := ⟨_, rfl⟩
        have hdz : DG.size = 16 := by rw [← hDG]; rfl
        have hdl : lS DG = [48, 49, 50, 51, 52, 53, 54, 55, 56, 57, 97, 98, 99, 100, 101, 102] := by rw [← hDG]; rfl
        have sA : (DG.extract a (a + 1)).size = 1 := by rw [← lS_len, lS_one DG a (by omega)]; rfl
        have sB : (DG.extract b (b + 1)).size = 1 := by rw [← lS_len, lS_one DG b (by omega)]; rfl
        have hcA : ∀ W, (sCut (.string DG) (.int .i64 (a : Int)) (.int .i64 ((a : Int) + 1))).run Tryz.prog W = .ok (.value (.string (DG.extract a (a + 1)))) W := fun W => by
          have := run_sCut W DG a (a + 1) (by omega) (by omega)
          rw [← this]; rfl
        have hcB : ∀ W, (sCut (.string DG) (.int .i64 (b : Int)) (.int .i64 ((b : Int) + 1))).run Tryz.prog W = .ok (.value (.string (DG.extract b (b + 1)))) W := fun W => by
          have := run_sCut W DG b (b + 1) (by omega) (by omega)
          rw [← this]; rfl
        have HP : Hid (lS (⟨#[92, 117, 48, 48]⟩ ++ DG.extract a (a + 1) ++ DG.extract b (b + 1)) = quo v) := by
          show _ = _
          rw [HQ3.out, lS_app, lS_app, lS_one DG a (by omega), lS_one DG b (by omega), hdl, dgC_at a ha16, dgC_at b hb16]; rfl
        have HDG : Hid _ := hDG
        clear hdl HQ3 hDG
        generalize DG.extract a (a + 1) = DA at sA hcA HP
        generalize DG.extract b (b + 1) = DB at sB hcB HP
        have i16 : (0 : Int) ≤ (v : Int) := by omega
        go_upto_region 10 with fail
        rw [HDG.out]
        clear HDG
        have itm : (v : Int).tmod 16 = (b : Int) := by rw [Int.tmod_eq_emod_of_nonneg (by omega)]; exact ib
        have wa : IntKind.i64.wrap (a : Int) = (a : Int) := by rw [IntKind.wrap_i64]; omega
        have wb : IntKind.i64.wrap (b : Int) = (b : Int) := by rw [IntKind.wrap_i64]; omega
        have wa1 : IntKind.i64.wrap ((a : Int) + 1) = (a : Int) + 1 := by rw [IntKind.wrap_i64]; omega
        have wb1 : IntKind.i64.wrap ((b : Int) + 1) = (b : Int) + 1 := by rw [IntKind.wrap_i64]; omega
        refine wp_relies [Fx (.string DG), Fx (.int .i64 ((v : Int))), Fx (.int .i64 ((a : Int))), Fx (.int .i64 ((v : Int))), Fx (.int .i64 ((a : Int))), Fx (.int .i64 ((a : Int) + 1)), Fx (.string DA), Fx (.string (⟨#[92, 117, 48, 48]⟩ ++ DA)), Fx (.string DG), Fx (.int .i64 ((v : Int))), Fx (.int .i64 ((b : Int))), Fx (.int .i64 ((v : Int))), Fx (.int .i64 ((b : Int))), Fx (.int .i64 ((b : Int) + 1)), Fx (.string DB), Fx (.string (⟨#[92, 117, 48, 48]⟩ ++ DA ++ DB)), Fx (.string (⟨#[92, 117, 48, 48]⟩ ++ DA ++ DB))] (by kernel_rfl) (by kernel_rfl) ?_ ?_ ?_
        · repeat' (first | exact all_nil | apply all_cons)
          all_goals intro v y y' hv hb
          all_goals first | exact Fx_mono _ _ _ _ hv hb
        · refine ⟨?_, ?_, ?_, ?_, ?_, ?_, ?_, ?_, ?_, ?_, ?_, ?_, ?_, ?_, ?_, ?_, ?_, trivial⟩
          all_goals
            intro ρ y9 hp ρc ρg ρf ho hd
            have o6 : ρ (.tmp 6) = .string DG := ho 6 rfl
            have o0 : ρ (.tmp 0) = .int .i64 ((v : Int)) := ho 0 rfl
            clear ho
            simp only [depsR, depR, slotR, Fx, List.getElem?_cons_succ, List.getElem?_cons_zero, Region.binds, forall_const] at hd
            simp only [guardR]
            go_split_ands
          · go_simp
          · go_simp
          · go_simp
          · go_simp
          · go_simp
          · go_simp
          · have hq := hcA y9
            go_simp
          · go_simp
          · go_simp
          · go_simp
          · go_simp
          · go_simp
          · go_simp
          · go_simp
          · have hq := hcB y9
            go_simp
          · go_simp
          · go_simp
        · intro vs x1 hp hw
          simp only [owed, Fx] at hw
          obtain ⟨e0, e1, e2, e3, e4, e5, e6, e7, e8, e9, e10, e11, e12, e13, e14, e15, e16, -⟩ := hw
          simp only [List.length_cons, List.length_nil, List.take_succ_cons, List.take_nil, List.drop_succ_cons, List.drop_nil, asg, List.cons_append, List.nil_append, e0, e1, e2, e3, e4, e5, e6, e7, e8, e9, e10, e11, e12, e13, e14, e15, e16]
          clear e0 e1 e2 e3 e4 e5 e6 e7 e8 e9 e10 e11 e12 e13 e14 e15 e16
          go_wp2
          go_ret
          exact ⟨⟨_, rfl, HP.out⟩, bX.trans (hp.mono bX.size)⟩
      · have i1 : ¬ (v : Int) < 32 := by omega
        have HQ3 : Hid (quo v = enc v) := by show _ = _; rw [HQ2.out, if_neg h32]
        have hE := refEnc_any v hv wr
        clear HQ2
        go_wp2_with fail
        refine hE.mono ?_
        rintro e w1 ⟨rfl, hb⟩
        clear hE
        go_wp2
        go_ret
        exact ⟨⟨_, rfl, by rw [HQ3.out, lS_mk]⟩, bX.trans (hb.mono bX.size)⟩
end Go.Proofs.YtddmmmfpdmejbaaGreatDoor
namespace Go.Proofs.YtddmmmfpdmejbaaGreatDoor
open Go.RowKit

/-! assayref14.Quote -/
theorem enc_len (v : Nat) : (enc v).length ≤ 4 := by
  unfold enc
  (repeat' split) <;> simp
theorem quo_len (v : Nat) : (quo v).length ≤ 6 := by
  unfold quo
  have := enc_len v
  (repeat' split) <;> first | (simp; done) | omega
theorem rnN_range (l : List UInt8) (n v0 : Nat) : (rnN l n v0).1 ≤ 1114111 ∧ ((rnN l n v0).2 ≠ 0 → (rnN l n v0).2 = n ∧ n ≤ l.length) := by
  unfold rnN
  split
  · simp
  · split
    · simp
    · split
      · rename_i h
        unfold okR at h
        simp only [decide_eq_true_eq] at h
        exact ⟨h.2.1, fun _ => ⟨rfl, by omega⟩⟩
      · simp
theorem rn_range (l : List UInt8) : (rn l).1 ≤ 1114111 ∧ (rn l).2 ≤ l.length ∧ (rn l).2 ≤ 4 := by
  unfold rn
  split
  · simp
  · split
    · simp only; omega
    · split
      · obtain ⟨h1, h2⟩ := rnN_range l 2 ((lB l 0).toNat - 192)
        by_cases h : (rnN l 2 ((lB l 0).toNat - 192)).2 = 0
        · omega
        · have := h2 h; omega
      · split
        · obtain ⟨h1, h2⟩ := rnN_range l 3 ((lB l 0).toNat - 224)
          by_cases h : (rnN l 3 ((lB l 0).toNat - 224)).2 = 0
          · omega
          · have := h2 h; omega
        · split
          · obtain ⟨h1, h2⟩ := rnN_range l 4 ((lB l 0).toNat - 240)
            by_cases h : (rnN l 4 ((lB l 0).toNat - 240)).2 = 0
            · omega
            · have := h2 h; omega
          · simp
def QuP (l : List UInt8) (w : World) (e : Ending) (w' : World) : Prop := e = .returned (.tuple #[.string ⟨(quS l).toArray⟩, .int .i64 (quE l)]) ∧ Below w.heap.size w w'
set_option linter.unusedSimpArgs false in
set_option maxRecDepth 100000 in
set_option maxHeartbeats 4000000 in
theorem refQuote_any (s : ByteArray) (w : World) (h47 : s.size ≤ 140737488355328) : Calls Tryz.prog 65 #[.string s] w fun e w' => QuP (lS s) w e w' := by
  have hls := lS_len s
  have hrun := fun k (hk : k ≤ s.size) W => refRune_any (s.extract k s.size) W (by rw [← lS_len, lS_cut, List.length_take, List.length_drop]; omega)
  simp only [lS_cut] at hrun
  obtain ⟨l, hl⟩ : ∃ q, lS s = q := ⟨_, rfl⟩
  rw [hl] at hls ⊢
  simp only [hl] at hrun
  obtain ⟨p, hp⟩ : ∃ q, s.size = q := ⟨_, rfl⟩
  rw [hp] at hls h47
  simp only [hp] at hrun
  obtain ⟨RQ, hRQ⟩ : ∃ q, quA l = q := ⟨_, rfl⟩
  have HYES : Hid (∀ S w', RQ = some (lS S) → Below w.heap.size w w' → QuP l w (.returned (.tuple #[.string S, .int .i64 0])) w') := fun S w' h hb => ⟨by
    unfold quS quE
    rw [hRQ, h]
    simp only [Option.getD_some, Option.isNone_some]
    rw [← lS_eq (rfl : lS S = lS S)]; rfl, hb⟩
  have HNO : Hid (∀ w', RQ = none → Below w.heap.size w w' → QuP l w (.returned (.tuple #[.string ⟨#[]⟩, .int .i64 30])) w') := fun w' h hb => ⟨by
    unfold quS quE
    rw [hRQ, h]; rfl, hb⟩
  have H0 : Hid (∃ f, p + 1 ≤ f + 0 ∧ quF l f 0 (lS ⟨#[34]⟩) = RQ) := ⟨p + 1, by omega, by rw [← hRQ]; unfold quA; rw [hls]; rfl⟩
  clear hRQ
  obtain ⟨S0, hS0⟩ : ∃ q, ByteArray.mk #[34] = q := ⟨_, rfl⟩
  have hz0 : S0.size = 1 := by rw [← hS0]; rfl
  have HL0 : Hid (lS S0 = [34]) := by show _ = _; rw [← hS0]; rfl
  rw [hS0] at H0
  have HS0 : Hid (ByteArray.mk #[34] = S0) := hS0
  clear hS0
  go_enter Tryz.func65, Tryz.ntmps65
  go_upto_region 2 with fail
  rw [HS0.out]
  go_wp2_with fail
  go_loopw [4, 5] (fun ov iv wr => ∃ (k : Nat) (S : ByteArray), k ≤ p ∧ ov = .string S ∧ iv = .int .i64 k ∧ S.size ≤ 1 + 6 * k ∧ Hid (∃ f, p + 1 ≤ f + k ∧ quF l f k (lS S) = RQ) ∧ Below w.heap.size w wr) (fun _ iv _ => p - (intOf iv).toNat)
  case atStart => exact ⟨0, S0, by omega, rfl, rfl, by omega, H0, Below.refl _ _⟩
  case round =>
    clear H0
    obtain ⟨k, S, hk, rfl, rfl, hSz, HI, hB⟩ := hrel
    obtain ⟨f, hf, hF⟩ := HI.out
    clear HI
    by_cases hlt : k < p
    · have i0 : (0 : Int) ≤ (k : Int) := by omega
      have i1 : (k : Int) < (p : Int) := by omega
      obtain ⟨f', rfl⟩ : ∃ f', f = f' + 1 := ⟨f - 1, by omega⟩
      rw [quF, if_pos (by omega)] at hF
      have hr := hrun k (by omega)
      have htk : (l.drop k).take (p - k) = l.drop k := List.take_of_length_le (by rw [List.length_drop]; omega)
      simp only [htk] at hr
      clear htk
      unfold rnP at hr
      obtain ⟨r1, r2, r3⟩ := rn_range (l.drop k)
      rw [List.length_drop, hls] at r2
      have hcut : ∀ W, (sCut1 (.string s) (.int .i64 (k : Int))).run Tryz.prog W = .ok (.value (.string (s.extract k p))) W := fun W => by
        have := run_sCut1 W s k (by omega)
        rw [hp] at this; exact this
      obtain ⟨v, hv⟩ : ∃ q, (rn (l.drop k)).1 = q := ⟨_, rfl⟩
      obtain ⟨n, hn⟩ : ∃ q, (rn (l.drop k)).2 = q := ⟨_, rfl⟩
      rw [hv] at hF r1
      rw [hn] at hF r2 r3
      simp only [hv, hn] at hr
      generalize s.extract k p = SK at hr hcut
      clear hv hn hrun
      go_wp2_with fail
      refine (hr _).mono ?_
      rintro e w1 ⟨rfl, hb⟩
      have hB1 := hB.trans (hb.mono hB.size)
      clear hr hcut hB hb
      by_cases hn0 : n = 0
      · have f0 : ((n : Int) == 0) = true := beq_iff_eq.2 (by omega)
        rw [if_pos hn0] at hF
        have HP : Hid _ := HNO.out w1 hF.symm hB1
        clear hF hB1 hn0
        go_wp2
        go_ret2
        exact HP.out
      · have f0 : ((n : Int) == 0) = false := beq_eq_false_iff_ne.2 (by omega)
        rw [if_neg hn0] at hF
        have hq := refQuoted_any v r1 w1
        have hql := quo_len v
        have HF : Hid _ := hF
        clear hF
        go_wp2_with fail
        refine hq.mono ?_
        rintro e w2 ⟨⟨Q, rfl, hQ⟩, hb⟩
        have hB2 := hB1.trans (hb.mono hB1.size)
        have hQz : Q.size ≤ 6 := by rw [← lS_len, hQ]; exact hql
        have hns : ¬ 9223372036854775807 < S.size + Q.size := by omega
        have HN : Hid (∃ f, p + 1 ≤ f + (k + n) ∧ quF l f (k + n) (lS (S ++ Q)) = RQ) := ⟨f', by omega, by rw [lS_app, hQ]; exact HF.out⟩
        have HSZ : Hid ((S ++ Q).size ≤ 1 + 6 * (k + n)) := by show _ ≤ _; rw [ByteArray.size_append]; omega
        have hkn : IntKind.i64.wrap ((k : Int) + (n : Int)) = (k : Int) + (n : Int) := by rw [IntKind.wrap_i64]; omega
        clear hq hb hB1 HF hQ hql
        go_wp2
        go_roundw
        case rel => first | exact ⟨k + n, S ++ Q, by omega, rfl, by go_num, HSZ.out, HN, hB2⟩ | ((repeat apply Exists.intro); refine ⟨⟨k + n, S ++ Q, by omega, rfl, ?_, HSZ.out, HN, hB2⟩, rfl⟩; go_num)
        case measure => simp [intOf]; omega
    · obtain rfl : k = p := by omega
      have hlt' : ¬ (k : Int) < (k : Int) := by omega
      obtain ⟨f', rfl⟩ : ∃ f', f = f' + 1 := ⟨f - 1, by omega⟩
      rw [quF, if_neg (by omega)] at hF
      have hns : ¬ 9223372036854775807 < S.size + S0.size := by omega
      have HP : Hid _ := HYES.out (S ++ S0) wr (by rw [lS_app, HL0.out]; exact hF.symm) hB
      clear hF hrun
      have hlit : ByteArray.mk #[34] = S0 := HS0.out
      go_upto_region 9 with fail
      rw [hlit]
      go_wp2
      go_ret2
      exact HP.out
end Go.Proofs.YtddmmmfpdmejbaaGreatDoor
namespace Go.Proofs.YtddmmmfpdmejbaaGreatDoor
open Go.RowKit

/-! assayref14.escape -/
end Go.Proofs.YtddmmmfpdmejbaaGreatDoor
namespace Go.Proofs.YtddmmmfpdmejbaaGreatDoor
open Go.RowKit

/-! assayref14: inWord, number -/
end Go.Proofs.YtddmmmfpdmejbaaGreatDoor
namespace Go.Proofs.YtddmmmfpdmejbaaGreatDoor
open Go.RowKit

/-! assayref14.text -/
theorem lB_drop (l : List UInt8) (k : Nat) : lB (l.drop k) 0 = lB l k := by unfold lB; rw [List.getElem?_drop]; rfl
theorem escU_range (l : List UInt8) : (escU l).2 ≤ l.length ∧ (escU l).1.length ≤ (escU l).2 := by
  unfold escU
  split
  · simp
  · rename_i h
    split
    · simp
    · rename_i v _
      split
      · simp
      · have := enc_len v
        simp only
        omega
theorem esc_range (l : List UInt8) : (escS l).2 ≤ l.length ∧ (escS l).1.length ≤ (escS l).2 := by
  unfold escS
  split
  · split
    · simp; omega
    · exact escU_range l
  · exact escU_range l
end Go.Proofs.YtddmmmfpdmejbaaGreatDoor
