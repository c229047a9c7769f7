import Derived.Test.YtfdigmlhjjdggaaQNum
import Derived.Test.YtfdigmlhjjdggaaQCrcM
namespace Go.Proofs.Ytfdigmlhjjdggaa
open Go.RowKit

/-! The document's own answers of chapter 2 -/
theorem crcL_take_succ (n : BitVec 32) (l : List UInt8) (k : Nat) (h : k < l.length) : crcL n (l.take (k + 1)) = byt (crcL n (l.take k)) (l[k]?.getD 0) := by
  rw [List.take_succ_eq_append_getElem h, crcL_append]; simp [crcL, h]
theorem stN_succ' (k : Nat) (n : BitVec 32) : stN (k + 1) n = st (stN k n) := by rw [stN_add]; rfl
set_option maxHeartbeats 400000 in
theorem refSum_any (v : Value) (l : List UInt8) (w : World) (hl : l.length ≤ maxLen) (hv : IsB w v l) :
    Calls Try.prog 31 #[v] w fun e w' => e = .returned (.int .u32 ((sumL l).toNat : Nat)) ∧ w' = w := by
  obtain ⟨x, c, rfl⟩ := hv.len
  have hcells := fun k hk => hv.spot k hk
  clear hv
  unfold maxLen at hl
  go_enter Try.func31, Try.ntmps31
  go_wp2
  go_loop [3, 4] (fun n i => ∃ k : Nat, k ≤ l.length ∧ i = .int .i64 k ∧ n = .int .u32 ((crcL ones (l.take k)).toNat : Nat)) (fun _ i => l.length - (intOf i).toNat)
  case atStart => exact ⟨0, Nat.zero_le _, rfl, by simp only [List.take_zero]; rfl⟩
  case round =>
    obtain ⟨k, hk, rfl, rfl⟩ := hrel
    by_cases hlt : k < l.length
    · obtain ⟨b, o, rfl, hb, hc⟩ := hcells k hlt
      clear hcells
      have HS : Hid (crcL ones (l.take (k + 1)) = byt (crcL ones (l.take k)) (l[k]?.getD 0)) := crcL_take_succ ones l k hlt
      generalize crcL ones (l.take k) = n at HS ⊢
      generalize l[k]?.getD 0 = d at hc HS
      have hd := d.toNat_lt
      obtain ⟨m, hm⟩ : ∃ m, n ^^^ BitVec.ofNat 32 d.toNat = m := ⟨_, rfl⟩
      have hx : bits .xor .u32 (n.toNat : Int) (d.toNat : Int) = (m.toNat : Int) := by rw [← hm]; exact xor_byte n d
      have HM : Hid (crcL ones (l.take (k + 1)) = stN 8 m) := by show _ = _; rw [HS.out, byt, hm]
      clear hm HS
      have hk0 : (0 : Int) ≤ (k : Int) := by omega
      have hk1 : (k : Int) < (l.length : Int) := by omega
      go_wp2
      go_loop [3, 5] (fun y i => ∃ j : Nat, j ≤ 8 ∧ i = .int .i64 j ∧ y = .int .u32 ((stN j m).toNat : Nat)) (fun _ i => 8 - (intOf i).toNat)
      case atStart => exact ⟨0, by omega, rfl, rfl⟩
      case round =>
        obtain ⟨j, hj, rfl, rfl⟩ := hrel
        by_cases hj8 : j < 8
        · have HJ : Hid (stN (j + 1) m = st (stN j m)) := stN_succ' j m
          generalize stN j m = y at HJ ⊢
          have hy := y.isLt
          have ha := and_one y
          cases hb0 : y.getLsbD 0
          · rw [hb0] at ha
            simp only [cond_false] at ha
            have HZ : Hid ((y.toNat : Int) / (2 : Int) = (((stN (j + 1) m).toNat : Nat) : Int)) := by show _ = _; rw [HJ.out]; exact st_even y hb0
            clear hb0
            go_wp2
            go_round
            case rel => exact ⟨j + 1, by omega, by go_num, by rw [HZ.out]⟩
            case measure => simp [intOf]; omega
          · rw [hb0] at ha
            simp only [cond_true] at ha
            have HZ : Hid (bits .xor .u32 ((y.toNat : Int) / (2 : Int)) 3988292384 = (((stN (j + 1) m).toNat : Nat) : Int)) := by show _ = _; rw [HJ.out]; exact st_odd y hb0
            clear hb0
            go_wp2
            go_round
            case rel => exact ⟨j + 1, by omega, by go_num, by rw [HZ.out]⟩
            case measure => simp [intOf]; omega
        · obtain rfl : j = 8 := by omega
          go_wp2
          go_round
          case rel => exact ⟨k + 1, by omega, by go_num, by rw [HM.out]⟩
          case measure => simp [intOf]; omega
    · obtain rfl : k = l.length := by omega
      have hx := xor_ones (crcL ones l)
      rw [List.take_length]
      go_wp2
      go_ret
      exact ⟨rfl, rfl⟩
end Go.Proofs.Ytfdigmlhjjdggaa
