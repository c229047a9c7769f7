
import Derived.Test.YtiokdcffpnjkcaaDoorLex1
namespace Go.Proofs.YtiokdcffpnjkcaaDoor
open Go.RowKit

/-! assayref14.Rune -/
def bdR : Nat → Nat
  | 0 => 32
  | k + 1 => 64 * bdR k
theorem bdR_le (k : Nat) (h : k ≤ 3) : bdR k ≤ 8388608 := by
  rcases (by omega : k = 0 ∨ k = 1 ∨ k = 2 ∨ k = 3) with rfl | rfl | rfl | rfl <;> decide
def rnP (l : List UInt8) (w : World) (e : Ending) (w' : World) : Prop := e = .returned (.tuple #[.int .i64 ((rn l).1 : Int), .int .i64 ((rn l).2 : Int)]) ∧ Below w.heap.size w w'
theorem rnP_of {l : List UInt8} {w w' : World} {a b : Nat} (h : rn l = (a, b)) (hb : Below w.heap.size w w') : rnP l w (.returned (.tuple #[.int .i64 (a : Int), .int .i64 (b : Int)])) w' := ⟨by rw [h], hb⟩
set_option linter.unusedSimpArgs false in
set_option maxRecDepth 100000 in
set_option maxHeartbeats 4000000 in
theorem refRune_any (s : ByteArray) (w : World) (h63 : s.size ≤ 9223372036854775807) : Calls Tryd.prog 21 #[.string s] w fun e w' => rnP (lS s) w e w' := by
  have hls := lS_len s
  obtain ⟨l, hl⟩ : ∃ q, lS s = q := ⟨_, rfl⟩
  rw [hl] at hls ⊢
  obtain ⟨p, hp⟩ : ∃ q, s.size = q := ⟨_, rfl⟩
  rw [hp] at hls h63
  have bW := below_alloc w (.cells #[Value.int .i64 0, Value.int .i64 0, Value.int .i64 128, Value.int .i64 2048, Value.int .i64 65536] 3)
  have hce : ∀ i, (w.alloc (.cells #[Value.int .i64 0, Value.int .i64 0, Value.int .i64 128, Value.int .i64 2048, Value.int .i64 65536] 3)).cell? ⟨w.heap.size, i, none⟩ = (#[Value.int .i64 0, Value.int .i64 0, Value.int .i64 128, Value.int .i64 2048, Value.int .i64 65536] : Array Value)[i]? := fun i => cell_of_row _ _ i _ _ _ (heap_alloc_last w _)
  have k2 := hce 2
  have k3 := hce 3
  have k4 := hce 4
  clear hce
  have hgw : w.heap.size < (w.alloc (.cells #[Value.int .i64 0, Value.int .i64 0, Value.int .i64 128, Value.int .i64 2048, Value.int .i64 65536] 3)).heap.size := by simp
  obtain ⟨g, hg⟩ : ∃ q, w.heap.size = q := ⟨_, rfl⟩
  have HGW : Hid (w.heap.size = g) := hg
  go_enter Tryd.func21, Tryd.ntmps21
  go_upto_region 2 with fail
  simp only [hg] at k2 k3 k4 hgw ⊢
  clear hg
  generalize w.alloc (.cells #[Value.int .i64 0, Value.int .i64 0, Value.int .i64 128, Value.int .i64 2048, Value.int .i64 65536] 3) = X at bW k2 k3 k4 hgw ⊢
  have k2' : X.cell? ⟨g, 2, none⟩ = some (.int .i64 128) := k2
  have k3' : X.cell? ⟨g, 3, none⟩ = some (.int .i64 2048) := k3
  have k4' : X.cell? ⟨g, 4, none⟩ = some (.int .i64 65536) := k4
  clear k2 k3 k4
  by_cases h0 : p = 0
  · have HP : Hid (rnP l w (.returned (.tuple #[.int .i64 0, .int .i64 0])) X) := rnP_of (a := 0) (b := 0) (by unfold rn; rw [if_pos (by omega)]) bW
    have i0 : ((p : Int) == 0) = true := beq_iff_eq.2 (by omega)
    clear k2' k3' k4' h0
    go_wp2
    go_ret2
    exact HP.out
  have i0 : ((p : Int) == 0) = false := beq_eq_false_iff_ne.2 (by omega)
  have i9 : (0 : Int) < (p : Int) := by omega
  have hat : ∀ W, (sAt (.string s) (.int .i64 0)).run Tryd.prog W = .ok (.value (.int .u8 ((lB l 0).toNat : Int))) W := fun W => by
    have := run_sAt W s 0 (by rw [hp]; omega)
    rw [hl] at this; exact this
  have HRN : Hid (rn l = (if (lB l 0).toNat < 128 then ((lB l 0).toNat, 1) else if 192 ≤ (lB l 0).toNat ∧ (lB l 0).toNat < 224 then rnN l 2 ((lB l 0).toNat - 192) else if 224 ≤ (lB l 0).toNat ∧ (lB l 0).toNat < 240 then rnN l 3 ((lB l 0).toNat - 224) else if 240 ≤ (lB l 0).toNat ∧ (lB l 0).toNat < 248 then rnN l 4 ((lB l 0).toNat - 240) else (0, 0))) := by
    show rn l = _
    rw [rn, if_neg (by omega)]
  have hb8 := (lB l 0).toNat_lt
  obtain ⟨c, hc⟩ : ∃ q, (lB l 0).toNat = q := ⟨_, rfl⟩
  rw [hc] at HRN hb8
  simp only [hc] at hat
  rcases (by omega : c < 128 ∨ (128 ≤ c ∧ c < 192) ∨ (192 ≤ c ∧ c < 224) ∨ (224 ≤ c ∧ c < 240) ∨ (240 ≤ c ∧ c < 248) ∨ 248 ≤ c) with hcl | hcl | hcl | hcl | hcl | hcl
  · have f0 : (c : Int) < 128 := by omega
    have f1 : ¬ (192 : Int) ≤ (c : Int) := by omega
    have f2 : (c : Int) < 224 := by omega
    have f3 : ¬ (224 : Int) ≤ (c : Int) := by omega
    have f4 : (c : Int) < 240 := by omega
    have f5 : ¬ (240 : Int) ≤ (c : Int) := by omega
    have f6 : (c : Int) < 248 := by omega
    have HP : Hid (rnP l w (.returned (.tuple #[.int .i64 (c : Int), .int .i64 1])) X) := rnP_of (a := c) (b := 1) (by rw [HRN.out, if_pos (by omega)]) bW
    clear k2' k3' k4' HRN
    go_wp2
    go_ret2
    exact HP.out
  · have f0 : ¬ (c : Int) < 128 := by omega
    have f1 : ¬ (192 : Int) ≤ (c : Int) := by omega
    have f2 : (c : Int) < 224 := by omega
    have f3 : ¬ (224 : Int) ≤ (c : Int) := by omega
    have f4 : (c : Int) < 240 := by omega
    have f5 : ¬ (240 : Int) ≤ (c : Int) := by omega
    have f6 : (c : Int) < 248 := by omega
    have HP : Hid (rnP l w (.returned (.tuple #[.int .i64 0, .int .i64 0])) X) := rnP_of (a := 0) (b := 0) (by rw [HRN.out]; repeat rw [if_neg (by omega)]) bW
    clear k2' k3' k4' HRN
    go_wp2
    go_ret2
    exact HP.out
  · have f0 : ¬ (c : Int) < 128 := by omega
    have f1 : (192 : Int) ≤ (c : Int) := by omega
    have f2 : (c : Int) < 224 := by omega
    have f3 : ¬ (224 : Int) ≤ (c : Int) := by omega
    have f4 : (c : Int) < 240 := by omega
    have f5 : ¬ (240 : Int) ≤ (c : Int) := by omega
    have f6 : (c : Int) < 248 := by omega
    have HN : Hid (rn l = rnN l 2 (c - 192)) := by
      show _ = _
      rw [HRN.out]
      rw [if_neg (by omega), if_pos (by omega)]
    clear HRN
    by_cases hn : p < 2
    · have j0 : (p : Int) < 2 := by omega
      have HP : Hid (rnP l w (.returned (.tuple #[.int .i64 0, .int .i64 0])) X) := rnP_of (a := 0) (b := 0) (by rw [HN.out]; unfold rnN; rw [if_pos (by omega)]) bW
      clear k2' k3' k4' HN
      go_wp2
      go_ret2
      exact HP.out
    have j0 : ¬ (p : Int) < 2 := by omega
    have HM : Hid (rn l = (match cvR l (c - 192) 1 with | none => (0, 0) | some v => if okR 2 v = true then (v, 2) else (0, 0))) := by
      show _ = _
      rw [HN.out, rnN, if_neg (by omega)]
      rfl
    clear HN
    obtain ⟨v0, hv0⟩ : ∃ q, c - 192 = q := ⟨_, rfl⟩
    have hv32 : v0 < 32 := by omega
    have hvi : (c : Int) - 192 = (v0 : Int) := by omega
    rw [hv0] at HM
    clear hv0
    go_wp2_with fail
    clear hat f0 f1 f2 f3 f4 f5 f6 hcl
    go_loopw [6, 7] (fun vv iv wr => ∃ k v : Nat, (1 ≤ k ∧ k ≤ 2) ∧ vv = .int .i64 v ∧ iv = .int .i64 k ∧ v < bdR (k - 1) ∧ Hid (cvR l v0 (k - 1) = some v) ∧ wr = X) (fun _ iv _ => 2 - (intOf iv).toNat)
    case atStart => exact ⟨1, v0, by omega, by first | rfl | rw [hvi], rfl, hv32, rfl, rfl⟩
    case round =>
      obtain ⟨k, v, ⟨hk1, hk2⟩, rfl, rfl, hvb, HV, rfl⟩ := hrel
      have hbd := bdR_le (k - 1) (by omega)
      by_cases hlt : k < 2
      · have q0 : (0 : Int) ≤ (k : Int) := by omega
        have q1 : (k : Int) < 2 := by omega
        have q2 : (k : Int) < (p : Int) := by omega
        have hd8 := (lB l k).toNat_lt
        have HCV : Hid (cvR l v0 k = if isC (lB l k) = true then some (64 * v + (lB l k).toNat - 128) else none) := by
          obtain ⟨j, rfl⟩ : ∃ j, k = j + 1 := ⟨k - 1, by omega⟩
          show cvR l v0 (j + 1) = _
          rw [cvR, show cvR l v0 j = some v from HV.out]
        have HBD : Hid (bdR k = 64 * bdR (k - 1)) := by
          obtain ⟨j, rfl⟩ : ∃ j, k = j + 1 := ⟨k - 1, by omega⟩
          rfl
        have HNO : Hid (cvR l v0 k = none → rn l = (0, 0)) := fun h => by
          have h2 : cvR l v0 1 = none := by
            obtain rfl : k = 1 := by omega
            exact h
        
          rw [HM.out, h2]
        obtain ⟨d, hd⟩ : ∃ q, (lB l k).toNat = q := ⟨_, rfl⟩
        have HIC : Hid (isC (lB l k) = decide (128 ≤ d ∧ d ≤ 191)) := by show _ = _; unfold isC; rw [hd]
        rw [hd] at HCV hd8
        clear HV
        by_cases hok : 128 ≤ d ∧ d ≤ 191
        · have y0 : ¬ (d : Int) < 128 := by omega
          have y1 : ¬ (191 : Int) < (d : Int) := by omega
          obtain ⟨v1, hv1⟩ : ∃ q, 64 * v + d - 128 = q := ⟨_, rfl⟩
          have y2 : (64 : Int) * (v : Int) + (d : Int) - 128 = (v1 : Int) := by omega
          have HV2 : Hid (cvR l v0 (k + 1 - 1) = some v1) := by
            show cvR l v0 (k + 1 - 1) = _
            rw [show k + 1 - 1 = k by omega, HCV.out, HIC.out, decide_eq_true hok, if_pos rfl, hv1]
          have HB2 : Hid (v1 < bdR (k + 1 - 1)) := by show _ < _; rw [show k + 1 - 1 = k by omega, HBD.out]; omega
          clear HCV HBD HNO HIC hv1 hok
          go_wp2
          go_roundw
          case rel =>

            exact ⟨k + 1, v1, by omega, by first | rfl | go_num, by go_num, HB2.out, HV2, by trivial⟩
          case measure => simp [intOf]; omega
        · have HP : Hid (rnP l w (.returned (.tuple #[.int .i64 0, .int .i64 0])) wr) := rnP_of (a := 0) (b := 0) (HNO.out (by rw [HCV.out, HIC.out, decide_eq_false hok]; rfl)) bW
          clear HCV HBD HNO HIC
          by_cases hl8 : d < 128
          · have y0 : (d : Int) < 128 := by omega
            clear hok
            go_wp2
            go_ret2
            exact HP.out
          · have y0 : ¬ (d : Int) < 128 := by omega
            have y1 : (191 : Int) < (d : Int) := by omega
            clear hok
            go_wp2
            go_ret2
            exact HP.out
      · obtain rfl : k = 2 := by omega
        have HF : Hid (rn l = if okR 2 v = true then (v, 2) else (0, 0)) := by show _ = _; rw [HM.out, show cvR l v0 1 = some v from HV.out]
        have HOK : Hid (okR 2 v = decide (128 ≤ v ∧ v ≤ 1114111 ∧ ¬ (55296 ≤ v ∧ v ≤ 57343))) := rfl
        clear HV HM hlt
        by_cases hok : 128 ≤ v ∧ v ≤ 1114111 ∧ ¬ (55296 ≤ v ∧ v ≤ 57343)
        · have HP : Hid (rnP l w (.returned (.tuple #[.int .i64 (v : Int), .int .i64 2])) wr) := rnP_of (a := v) (b := 2) (by rw [HF.out, HOK.out, decide_eq_true hok, if_pos rfl]) bW
          have y0 : ¬ (v : Int) < 128 := by omega
          have y1 : ¬ (1114111 : Int) < (v : Int) := by omega
          by_cases hs : 55296 ≤ v
          · have y2 : (55296 : Int) ≤ (v : Int) := by omega
            have y3 : ¬ (v : Int) ≤ 57343 := by omega
            clear hok HF HOK
            go_wp2
            go_ret2
            exact HP.out
          · have y2 : ¬ (55296 : Int) ≤ (v : Int) := by omega
            clear hok HF HOK
            go_wp2
            go_ret2
            exact HP.out
        · have HP : Hid (rnP l w (.returned (.tuple #[.int .i64 0, .int .i64 0])) wr) := rnP_of (a := 0) (b := 0) (by rw [HF.out, HOK.out, decide_eq_false hok]; rfl) bW
          clear HF HOK
          by_cases ha : v < 128
          · have y0 : (v : Int) < 128 := by omega
            clear hok
            go_wp2
            go_ret2
            exact HP.out
          · have y0 : ¬ (v : Int) < 128 := by omega
            by_cases hb : 1114111 < v
            · have y1 : (1114111 : Int) < (v : Int) := by omega
              clear hok
              go_wp2
              go_ret2
              exact HP.out
            · have y1 : ¬ (1114111 : Int) < (v : Int) := by omega
              have y2 : (55296 : Int) ≤ (v : Int) := by omega
              have y3 : (v : Int) ≤ 57343 := by omega
              clear hok
              go_wp2
              go_ret2
              exact HP.out
  · have f0 : ¬ (c : Int) < 128 := by omega
    have f1 : (192 : Int) ≤ (c : Int) := by omega
    have f2 : ¬ (c : Int) < 224 := by omega
    have f3 : (224 : Int) ≤ (c : Int) := by omega
    have f4 : (c : Int) < 240 := by omega
    have f5 : ¬ (240 : Int) ≤ (c : Int) := by omega
    have f6 : (c : Int) < 248 := by omega
    have HN : Hid (rn l = rnN l 3 (c - 224)) := by
      show _ = _
      rw [HRN.out]
      rw [if_neg (by omega), if_neg (by omega), if_pos (by omega)]
    clear HRN
    by_cases hn : p < 3
    · have j0 : (p : Int) < 3 := by omega
      have HP : Hid (rnP l w (.returned (.tuple #[.int .i64 0, .int .i64 0])) X) := rnP_of (a := 0) (b := 0) (by rw [HN.out]; unfold rnN; rw [if_pos (by omega)]) bW
      clear k2' k3' k4' HN
      go_wp2
      go_ret2
      exact HP.out
    have j0 : ¬ (p : Int) < 3 := by omega
    have HM : Hid (rn l = (match cvR l (c - 224) 2 with | none => (0, 0) | some v => if okR 3 v = true then (v, 3) else (0, 0))) := by
      show _ = _
      rw [HN.out, rnN, if_neg (by omega)]
      rfl
    clear HN
    obtain ⟨v0, hv0⟩ : ∃ q, c - 224 = q := ⟨_, rfl⟩
    have hv32 : v0 < 32 := by omega
    have hvi : (c : Int) - 224 = (v0 : Int) := by omega
    rw [hv0] at HM
    clear hv0
    go_wp2_with fail
    clear hat f0 f1 f2 f3 f4 f5 f6 hcl
    go_loopw [6, 7] (fun vv iv wr => ∃ k v : Nat, (1 ≤ k ∧ k ≤ 3) ∧ vv = .int .i64 v ∧ iv = .int .i64 k ∧ v < bdR (k - 1) ∧ Hid (cvR l v0 (k - 1) = some v) ∧ wr = X) (fun _ iv _ => 3 - (intOf iv).toNat)
    case atStart => exact ⟨1, v0, by omega, by first | rfl | rw [hvi], rfl, hv32, rfl, rfl⟩
    case round =>
      obtain ⟨k, v, ⟨hk1, hk2⟩, rfl, rfl, hvb, HV, rfl⟩ := hrel
      have hbd := bdR_le (k - 1) (by omega)
      by_cases hlt : k < 3
      · have q0 : (0 : Int) ≤ (k : Int) := by omega
        have q1 : (k : Int) < 3 := by omega
        have q2 : (k : Int) < (p : Int) := by omega
        have hd8 := (lB l k).toNat_lt
        have HCV : Hid (cvR l v0 k = if isC (lB l k) = true then some (64 * v + (lB l k).toNat - 128) else none) := by
          obtain ⟨j, rfl⟩ : ∃ j, k = j + 1 := ⟨k - 1, by omega⟩
          show cvR l v0 (j + 1) = _
          rw [cvR, show cvR l v0 j = some v from HV.out]
        have HBD : Hid (bdR k = 64 * bdR (k - 1)) := by
          obtain ⟨j, rfl⟩ : ∃ j, k = j + 1 := ⟨k - 1, by omega⟩
          rfl
        have HNO : Hid (cvR l v0 k = none → rn l = (0, 0)) := fun h => by
          have h2 : cvR l v0 2 = none := by
            rcases (by omega : k = 1 ∨ k = 2) with rfl | rfl
            all_goals simp [cvR] at h ⊢
            all_goals (first | (simp only [h]; done) | simp_all)
          rw [HM.out, h2]
        obtain ⟨d, hd⟩ : ∃ q, (lB l k).toNat = q := ⟨_, rfl⟩
        have HIC : Hid (isC (lB l k) = decide (128 ≤ d ∧ d ≤ 191)) := by show _ = _; unfold isC; rw [hd]
        rw [hd] at HCV hd8
        clear HV
        by_cases hok : 128 ≤ d ∧ d ≤ 191
        · have y0 : ¬ (d : Int) < 128 := by omega
          have y1 : ¬ (191 : Int) < (d : Int) := by omega
          obtain ⟨v1, hv1⟩ : ∃ q, 64 * v + d - 128 = q := ⟨_, rfl⟩
          have y2 : (64 : Int) * (v : Int) + (d : Int) - 128 = (v1 : Int) := by omega
          have HV2 : Hid (cvR l v0 (k + 1 - 1) = some v1) := by
            show cvR l v0 (k + 1 - 1) = _
            rw [show k + 1 - 1 = k by omega, HCV.out, HIC.out, decide_eq_true hok, if_pos rfl, hv1]
          have HB2 : Hid (v1 < bdR (k + 1 - 1)) := by show _ < _; rw [show k + 1 - 1 = k by omega, HBD.out]; omega
          clear HCV HBD HNO HIC hv1 hok
          go_wp2
          go_roundw
          case rel =>

            exact ⟨k + 1, v1, by omega, by first | rfl | go_num, by go_num, HB2.out, HV2, by trivial⟩
          case measure => simp [intOf]; omega
        · have HP : Hid (rnP l w (.returned (.tuple #[.int .i64 0, .int .i64 0])) wr) := rnP_of (a := 0) (b := 0) (HNO.out (by rw [HCV.out, HIC.out, decide_eq_false hok]; rfl)) bW
          clear HCV HBD HNO HIC
          by_cases hl8 : d < 128
          · have y0 : (d : Int) < 128 := by omega
            clear hok
            go_wp2
            go_ret2
            exact HP.out
          · have y0 : ¬ (d : Int) < 128 := by omega
            have y1 : (191 : Int) < (d : Int) := by omega
            clear hok
            go_wp2
            go_ret2
            exact HP.out
      · obtain rfl : k = 3 := by omega
        have HF : Hid (rn l = if okR 3 v = true then (v, 3) else (0, 0)) := by show _ = _; rw [HM.out, show cvR l v0 2 = some v from HV.out]
        have HOK : Hid (okR 3 v = decide (2048 ≤ v ∧ v ≤ 1114111 ∧ ¬ (55296 ≤ v ∧ v ≤ 57343))) := rfl
        clear HV HM hlt
        by_cases hok : 2048 ≤ v ∧ v ≤ 1114111 ∧ ¬ (55296 ≤ v ∧ v ≤ 57343)
        · have HP : Hid (rnP l w (.returned (.tuple #[.int .i64 (v : Int), .int .i64 3])) wr) := rnP_of (a := v) (b := 3) (by rw [HF.out, HOK.out, decide_eq_true hok, if_pos rfl]) bW
          have y0 : ¬ (v : Int) < 2048 := by omega
          have y1 : ¬ (1114111 : Int) < (v : Int) := by omega
          by_cases hs : 55296 ≤ v
          · have y2 : (55296 : Int) ≤ (v : Int) := by omega
            have y3 : ¬ (v : Int) ≤ 57343 := by omega
            clear hok HF HOK
            go_wp2
            go_ret2
            exact HP.out
          · have y2 : ¬ (55296 : Int) ≤ (v : Int) := by omega
            clear hok HF HOK
            go_wp2
            go_ret2
            exact HP.out
        · have HP : Hid (rnP l w (.returned (.tuple #[.int .i64 0, .int .i64 0])) wr) := rnP_of (a := 0) (b := 0) (by rw [HF.out, HOK.out, decide_eq_false hok]; rfl) bW
          clear HF HOK
          by_cases ha : v < 2048
          · have y0 : (v : Int) < 2048 := by omega
            clear hok
            go_wp2
            go_ret2
            exact HP.out
          · have y0 : ¬ (v : Int) < 2048 := by omega
            by_cases hb : 1114111 < v
            · have y1 : (1114111 : Int) < (v : Int) := by omega
              clear hok
              go_wp2
              go_ret2
              exact HP.out
            · have y1 : ¬ (1114111 : Int) < (v : Int) := by omega
              have y2 : (55296 : Int) ≤ (v : Int) := by omega
              have y3 : (v : Int) ≤ 57343 := by omega
              clear hok
              go_wp2
              go_ret2
              exact HP.out
  · have f0 : ¬ (c : Int) < 128 := by omega
    have f1 : (192 : Int) ≤ (c : Int) := by omega
    have f2 : ¬ (c : Int) < 224 := by omega
    have f3 : (224 : Int) ≤ (c : Int) := by omega
    have f4 : ¬ (c : Int) < 240 := by omega
    have f5 : (240 : Int) ≤ (c : Int) := by omega
    have f6 : (c : Int) < 248 := by omega
    have HN : Hid (rn l = rnN l 4 (c - 240)) := by
      show _ = _
      rw [HRN.out]
      rw [if_neg (by omega), if_neg (by omega), if_neg (by omega), if_pos (by omega)]
    clear HRN
    by_cases hn : p < 4
    · have j0 : (p : Int) < 4 := by omega
      have HP : Hid (rnP l w (.returned (.tuple #[.int .i64 0, .int .i64 0])) X) := rnP_of (a := 0) (b := 0) (by rw [HN.out]; unfold rnN; rw [if_pos (by omega)]) bW
      clear k2' k3' k4' HN
      go_wp2
      go_ret2
      exact HP.out
    have j0 : ¬ (p : Int) < 4 := by omega
    have HM : Hid (rn l = (match cvR l (c - 240) 3 with | none => (0, 0) | some v => if okR 4 v = true then (v, 4) else (0, 0))) := by
      show _ = _
      rw [HN.out, rnN, if_neg (by omega)]
      rfl
    clear HN
    obtain ⟨v0, hv0⟩ : ∃ q, c - 240 = q := ⟨_, rfl⟩
    have hv32 : v0 < 32 := by omega
    have hvi : (c : Int) - 240 = (v0 : Int) := by omega
    rw [hv0] at HM
    clear hv0
    go_wp2_with fail
    clear hat f0 f1 f2 f3 f4 f5 f6 hcl
    go_loopw [6, 7] (fun vv iv wr => ∃ k v : Nat, (1 ≤ k ∧ k ≤ 4) ∧ vv = .int .i64 v ∧ iv = .int .i64 k ∧ v < bdR (k - 1) ∧ Hid (cvR l v0 (k - 1) = some v) ∧ wr = X) (fun _ iv _ => 4 - (intOf iv).toNat)
    case atStart => exact ⟨1, v0, by omega, by first | rfl | rw [hvi], rfl, hv32, rfl, rfl⟩
    case round =>
      obtain ⟨k, v, ⟨hk1, hk2⟩, rfl, rfl, hvb, HV, rfl⟩ := hrel
      have hbd := bdR_le (k - 1) (by omega)
      by_cases hlt : k < 4
      · have q0 : (0 : Int) ≤ (k : Int) := by omega
        have q1 : (k : Int) < 4 := by omega
        have q2 : (k : Int) < (p : Int) := by omega
        have hd8 := (lB l k).toNat_lt
        have HCV : Hid (cvR l v0 k = if isC (lB l k) = true then some (64 * v + (lB l k).toNat - 128) else none) := by
          obtain ⟨j, rfl⟩ : ∃ j, k = j + 1 := ⟨k - 1, by omega⟩
          show cvR l v0 (j + 1) = _
          rw [cvR, show cvR l v0 j = some v from HV.out]
        have HBD : Hid (bdR k = 64 * bdR (k - 1)) := by
          obtain ⟨j, rfl⟩ : ∃ j, k = j + 1 := ⟨k - 1, by omega⟩
          rfl
        have HNO : Hid (cvR l v0 k = none → rn l = (0, 0)) := fun h => by
          have h2 : cvR l v0 3 = none := by
            rcases (by omega : k = 1 ∨ k = 2 ∨ k = 3) with rfl | rfl | rfl
            all_goals simp [cvR] at h ⊢
            all_goals (first | (simp only [h]; done) | simp_all)
          rw [HM.out, h2]
        obtain ⟨d, hd⟩ : ∃ q, (lB l k).toNat = q := ⟨_, rfl⟩
        have HIC : Hid (isC (lB l k) = decide (128 ≤ d ∧ d ≤ 191)) := by show _ = _; unfold isC; rw [hd]
        rw [hd] at HCV hd8
        clear HV
        by_cases hok : 128 ≤ d ∧ d ≤ 191
        · have y0 : ¬ (d : Int) < 128 := by omega
          have y1 : ¬ (191 : Int) < (d : Int) := by omega
          obtain ⟨v1, hv1⟩ : ∃ q, 64 * v + d - 128 = q := ⟨_, rfl⟩
          have y2 : (64 : Int) * (v : Int) + (d : Int) - 128 = (v1 : Int) := by omega
          have HV2 : Hid (cvR l v0 (k + 1 - 1) = some v1) := by
            show cvR l v0 (k + 1 - 1) = _
            rw [show k + 1 - 1 = k by omega, HCV.out, HIC.out, decide_eq_true hok, if_pos rfl, hv1]
          have HB2 : Hid (v1 < bdR (k + 1 - 1)) := by show _ < _; rw [show k + 1 - 1 = k by omega, HBD.out]; omega
          clear HCV HBD HNO HIC hv1 hok
          go_wp2
          go_roundw
          case rel =>

            exact ⟨k + 1, v1, by omega, by first | rfl | go_num, by go_num, HB2.out, HV2, by trivial⟩
          case measure => simp [intOf]; omega
        · have HP : Hid (rnP l w (.returned (.tuple #[.int .i64 0, .int .i64 0])) wr) := rnP_of (a := 0) (b := 0) (HNO.out (by rw [HCV.out, HIC.out, decide_eq_false hok]; rfl)) bW
          clear HCV HBD HNO HIC
          by_cases hl8 : d < 128
          · have y0 : (d : Int) < 128 := by omega
            clear hok
            go_wp2
            go_ret2
            exact HP.out
          · have y0 : ¬ (d : Int) < 128 := by omega
            have y1 : (191 : Int) < (d : Int) := by omega
            clear hok
            go_wp2
            go_ret2
            exact HP.out
      · obtain rfl : k = 4 := by omega
        have HF : Hid (rn l = if okR 4 v = true then (v, 4) else (0, 0)) := by show _ = _; rw [HM.out, show cvR l v0 3 = some v from HV.out]
        have HOK : Hid (okR 4 v = decide (65536 ≤ v ∧ v ≤ 1114111 ∧ ¬ (55296 ≤ v ∧ v ≤ 57343))) := rfl
        clear HV HM hlt
        by_cases hok : 65536 ≤ v ∧ v ≤ 1114111 ∧ ¬ (55296 ≤ v ∧ v ≤ 57343)
        · have HP : Hid (rnP l w (.returned (.tuple #[.int .i64 (v : Int), .int .i64 4])) wr) := rnP_of (a := v) (b := 4) (by rw [HF.out, HOK.out, decide_eq_true hok, if_pos rfl]) bW
          have y0 : ¬ (v : Int) < 65536 := by omega
          have y1 : ¬ (1114111 : Int) < (v : Int) := by omega
          by_cases hs : 55296 ≤ v
          · have y2 : (55296 : Int) ≤ (v : Int) := by omega
            have y3 : ¬ (v : Int) ≤ 57343 := by omega
            clear hok HF HOK
            go_wp2
            go_ret2
            exact HP.out
          · have y2 : ¬ (55296 : Int) ≤ (v : Int) := by omega
            clear hok HF HOK
            go_wp2
            go_ret2
            exact HP.out
        · have HP : Hid (rnP l w (.returned (.tuple #[.int .i64 0, .int .i64 0])) wr) := rnP_of (a := 0) (b := 0) (by rw [HF.out, HOK.out, decide_eq_false hok]; rfl) bW
          clear HF HOK
          by_cases ha : v < 65536
          · have y0 : (v : Int) < 65536 := by omega
            clear hok
            go_wp2
            go_ret2
            exact HP.out
          · have y0 : ¬ (v : Int) < 65536 := by omega
            by_cases hb : 1114111 < v
            · have y1 : (1114111 : Int) < (v : Int) := by omega
              clear hok
              go_wp2
              go_ret2
              exact HP.out
            · have y1 : ¬ (1114111 : Int) < (v : Int) := by omega
              have y2 : (55296 : Int) ≤ (v : Int) := by omega
              have y3 : (v : Int) ≤ 57343 := by omega
              clear hok
              go_wp2
              go_ret2
              exact HP.out
  · have f0 : ¬ (c : Int) < 128 := by omega
    have f1 : (192 : Int) ≤ (c : Int) := by omega
    have f2 : ¬ (c : Int) < 224 := by omega
    have f3 : (224 : Int) ≤ (c : Int) := by omega
    have f4 : ¬ (c : Int) < 240 := by omega
    have f5 : (240 : Int) ≤ (c : Int) := by omega
    have f6 : ¬ (c : Int) < 248 := by omega
    have HP : Hid (rnP l w (.returned (.tuple #[.int .i64 0, .int .i64 0])) X) := rnP_of (a := 0) (b := 0) (by rw [HRN.out]; repeat rw [if_neg (by omega)]) bW
    clear k2' k3' k4' HRN
    go_wp2
    go_ret2
    exact HP.out
end Go.Proofs.YtiokdcffpnjkcaaDoor
