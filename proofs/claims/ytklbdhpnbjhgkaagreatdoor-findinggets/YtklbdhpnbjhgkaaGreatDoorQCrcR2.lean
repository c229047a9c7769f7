import Derived.Test.YtklbdhpnbjhgkaaGreatDoorQCrcR
import Derived.Test.YtklbdhpnbjhgkaaGreatDoorQNum
import Derived.Deep.MidRow
import Derived.Deep.DeepCutAuto
import Derived.Lib.SlBytesConst
namespace Go.Proofs.YtklbdhpnbjhgkaaGreatDoor
open Go.RowKit

end Go.Proofs.YtklbdhpnbjhgkaaGreatDoor
namespace Go.Proofs.YtklbdhpnbjhgkaaGreatDoor
open Go.RowKit

/-- A slice of slices of bytes. -/
def IsBB (w : World) (v : Value) (ls : List (List UInt8)) : Prop :=
  (v = .slice none 0 0 ∧ ls = []) ∨ ∃ x c, v = .slice (some x) ls.length c ∧ ∀ i (h : i < ls.length), ∃ u, w.cell? (x.add i) = some u ∧ IsB w u ls[i]
end Go.Proofs.YtklbdhpnbjhgkaaGreatDoor
namespace Go.Proofs.YtklbdhpnbjhgkaaGreatDoor
open Go.RowKit

/-! The code's own crc -/
set_option maxHeartbeats 400000 in
theorem step_any (n : BitVec 32) (d : UInt8) (w : World) :
    Calls Tryz.prog 91 #[.int .u32 (n.toNat : Nat), .int .u8 (d.toNat : Nat)] w fun e w' => e = .returned (.int .u32 ((byt n d).toNat : Nat)) ∧ w' = w := by
  have hd := d.toNat_lt
  obtain ⟨m, hm⟩ : ∃ m, n ^^^ BitVec.ofNat 32 d.toNat = m := ⟨_, rfl⟩
  have hx : bits .xor .u32 (n.toNat : Int) (d.toNat : Int) = (m.toNat : Int) := by rw [← hm]; exact xor_byte n d
  have HM : Hid (byt n d = stN 8 m) := by show _ = _; rw [byt, hm]
  clear hm
  go_enter Tryz.func91, Tryz.ntmps91
  go_wp2
  go_loop [0, 9] (fun y i => ∃ j : Nat, j ≤ 8 ∧ i = .int .i64 j ∧ y = .int .u32 ((stN j m).toNat : Nat)) (fun _ i => 8 - (intOf i).toNat)
  case atStart => exact ⟨0, by omega, rfl, rfl⟩
  case round =>
    obtain ⟨j, hj, rfl, rfl⟩ := hrel
    by_cases hj8 : j < 8
    · have HJ : Hid (stN (j + 1) m = st (stN j m)) := stN_succ' j m
      generalize stN j m = y at HJ ⊢
      have hy := y.isLt
      have ha := and_one y
      cases hb0 : y.getLsbD 0
      · rw [hb0] at ha
        simp only [cond_false] at ha
        have HZ : Hid ((y.toNat : Int) / (2 : Int) = (((stN (j + 1) m).toNat : Nat) : Int)) := by show _ = _; rw [HJ.out]; exact st_even y hb0
        clear hb0
        go_wp2
        go_round
        case rel => exact ⟨j + 1, by omega, by go_num, by rw [HZ.out]⟩
        case measure => simp [intOf]; omega
      · rw [hb0] at ha
        simp only [cond_true] at ha
        have HZ : Hid (bits .xor .u32 ((y.toNat : Int) / (2 : Int)) 3988292384 = (((stN (j + 1) m).toNat : Nat) : Int)) := by show _ = _; rw [HJ.out]; exact st_odd y hb0
        clear hb0
        go_wp2
        go_round
        case rel => exact ⟨j + 1, by omega, by go_num, by rw [HZ.out]⟩
        case measure => simp [intOf]; omega
    · have HJ : Hid (stN j m = byt n d) := by show _ = _; rw [HM.out, show j = 8 by omega]
      have hj0 : (8 : Int) ≤ (j : Int) := by omega
      generalize stN j m = y at HJ ⊢
      go_wp2
      go_ret
      exact ⟨by rw [HJ.out]; rfl, rfl⟩
theorem IsBB.len {w : World} {v : Value} {ls : List (List UInt8)} (hv : IsBB w v ls) : ∃ x c, v = .slice x ls.length c := by
  rcases hv with ⟨rfl, rfl⟩ | ⟨x, c, rfl, -⟩
  · exact ⟨_, _, rfl⟩
  · exact ⟨_, _, rfl⟩
theorem IsBB.spot {w : World} {x : Option Addr} {c : Nat} {ls : List (List UInt8)} (hv : IsBB w (.slice x ls.length c) ls) (k : Nat) (hk : k < ls.length) :
    ∃ b o z d, x = some ⟨b, o, none⟩ ∧ b < w.heap.size ∧ w.cell? ⟨b, o + k, none⟩ = some (.slice z (ls[k]).length d) ∧ IsB w (.slice z (ls[k]).length d) ls[k] := by
  rcases hv with ⟨_, rfl⟩ | ⟨y, d, he, hc⟩
  · simp at hk
  · simp only [Value.slice.injEq, true_and] at he
    obtain ⟨rfl, rfl⟩ := he
    obtain ⟨u, h9, hu⟩ := hc k hk
    obtain ⟨z, e, rfl⟩ := hu.len
    obtain ⟨b, o, sp⟩ := y
    have hsp : sp = none := by
      obtain ⟨_, h0, _⟩ := hc 0 (by omega)
      simpa [Addr.add] using World.cell?_spot h0
    subst hsp
    have h9' : w.cell? ⟨b, o + k, none⟩ = some (.slice z (ls[k]).length e) := by rw [← h9]; unfold Addr.add; by_cases h0 : k = 0 <;> simp [h0]
    exact ⟨b, o, z, e, rfl, World.block_lt_of_cell? w _ h9', h9', hu⟩
theorem flatten_take_succ (ls : List (List UInt8)) (k : Nat) (h : k < ls.length) : (ls.take (k + 1)).flatten = (ls.take k).flatten ++ ls[k] := by
  rw [List.take_succ_eq_append_getElem h, List.flatten_append]; simp
set_option maxHeartbeats 400000 in
theorem sum_all (v : Value) (ls : List (List UInt8)) (w : World) (hl1 : ls.length ≤ maxLen) (hl2 : ∀ l ∈ ls, l.length ≤ maxLen) (hv : IsBB w v ls) :
    Calls Tryz.prog 62 #[v] w fun e w' => e = .returned (.int .u32 ((sumL ls.flatten).toNat : Nat)) ∧ w' = w := by
  obtain ⟨x, c, rfl⟩ := hv.len
  have hp := fun k hk => hv.spot k hk
  clear hv
  unfold maxLen at hl1
  go_enter Tryz.func62, Tryz.ntmps62
  go_wp2
  go_loop [3, 10] (fun n i => ∃ k : Nat, k ≤ ls.length ∧ i = .int .i64 k ∧ n = .int .u32 ((crcL ones (ls.take k).flatten).toNat : Nat)) (fun _ i => ls.length - (intOf i).toNat)
  case atStart => exact ⟨0, Nat.zero_le _, rfl, by simp only [List.take_zero, List.flatten_nil]; rfl⟩
  case round =>
    obtain ⟨k, hk, rfl, rfl⟩ := hrel
    by_cases hlt : k < ls.length
    · obtain ⟨b, o, z, d, rfl, hb, hc, hz⟩ := hp k hlt
      have hlm : (ls[k]).length ≤ maxLen := hl2 _ (List.getElem_mem hlt)
      clear hp hl2
      have HS : Hid (crcL ones (ls.take (k + 1)).flatten = crcL (crcL ones (ls.take k).flatten) ls[k]) := by show _ = _; rw [flatten_take_succ ls k hlt, crcL_append]
      generalize ls[k] = l at hc hz hlm HS
      generalize crcL ones (ls.take k).flatten = n at HS ⊢
      have hcells := fun k hk => hz.spot k hk
      clear hz
      unfold maxLen at hlm
      have hk0 : (0 : Int) ≤ (k : Int) := by omega
      have hk1 : (k : Int) < (ls.length : Int) := by omega
      go_wp2
      go_loop [3, 16] (fun y i => ∃ j : Nat, j ≤ l.length ∧ i = .int .i64 j ∧ y = .int .u32 ((crcL n (l.take j)).toNat : Nat)) (fun _ i => l.length - (intOf i).toNat)
      case atStart => exact ⟨0, Nat.zero_le _, rfl, by simp only [List.take_zero]; rfl⟩
      case round =>
        obtain ⟨j, hj, rfl, rfl⟩ := hrel
        by_cases hjl : j < l.length
        · obtain ⟨b2, o2, rfl, hb2, hc2⟩ := hcells j hjl
          clear hcells
          have HJ : Hid (crcL n (l.take (j + 1)) = byt (crcL n (l.take j)) (l[j]?.getD 0)) := crcL_take_succ n l j hjl
          generalize crcL n (l.take j) = y at HJ ⊢
          generalize l[j]?.getD 0 = q at hc2 HJ
          have hj0 : (0 : Int) ≤ (j : Int) := by omega
          have hj1 : (j : Int) < (l.length : Int) := by omega
          have HC := step_any y q w
          go_wp2_with fail
          refine HC.mono ?_
          rintro e w1 ⟨rfl, rfl⟩
          clear HC
          rw [← HJ.out]
          go_wp2
          go_round
          case rel => exact ⟨j + 1, by omega, by go_num, rfl⟩
          case measure => simp [intOf]; omega
        · have HJ : Hid (crcL n (l.take j) = crcL ones (ls.take (k + 1)).flatten) := by show _ = _; rw [HS.out, List.take_of_length_le (by omega)]
          generalize crcL n (l.take j) = y at HJ ⊢
          have hj1 : (l.length : Int) ≤ (j : Int) := by omega
          go_wp2
          go_round
          case rel => exact ⟨k + 1, by omega, by go_num, by rw [HJ.out]⟩
          case measure => simp [intOf]; omega
    · obtain rfl : k = ls.length := by omega
      rw [List.take_length]
      go_wp2
      go_ret
      refine ⟨?_, rfl⟩
      show Ending.returned (.int .u32 (bits .xor .u32 IntKind.u32.max (crcL ones ls.flatten).toNat)) = _
      rw [show IntKind.u32.max = ((ones.toNat : Nat) : Int) by decide, xor_vec, BitVec.xor_comm]
      rfl
theorem sum_one (v : Value) (l : List UInt8) (w : World) (y : Addr) (c : Nat) (hl : l.length ≤ maxLen) (hy : w.cell? y = some v) (hv : IsB w v l) :
    Calls Tryz.prog 62 #[.slice (some y) 1 c] w fun e w' => e = .returned (.int .u32 ((sumL l).toNat : Nat)) ∧ w' = w := by
  have h := sum_all (.slice (some y) 1 c) [l] w (by unfold maxLen; simp) (by intro m hm; rw [List.mem_singleton] at hm; rw [hm]; exact hl) (.inr ⟨y, c, rfl, fun i hi => ⟨v, ?_, ?_⟩⟩)
  · simpa using h
  · have : i = 0 := by simpa using hi
    subst this; simpa [Addr.add] using hy
  · have : i = 0 := by simpa using hi
    subst this; exact hv
end Go.Proofs.YtklbdhpnbjhgkaaGreatDoor
