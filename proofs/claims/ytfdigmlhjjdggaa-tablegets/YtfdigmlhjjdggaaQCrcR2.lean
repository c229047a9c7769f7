import Derived.Test.YtfdigmlhjjdggaaQCrcR
import Derived.Test.YtfdigmlhjjdggaaQNum
import Derived.Deep.MidRow
import Derived.Deep.DeepCutAuto
import Derived.Lib.SlBytesConst
namespace Go.Proofs.Ytfdigmlhjjdggaa
open Go.RowKit

theorem sec_isB {w : World} {n m : Nat} {s : Nat → UInt8} (c : Nat) (h : rowOk w n = true) (hs : rowAt w n = secA s) (hm : m ≤ 64) : IsB w (.slice (some ⟨n, 0, none⟩) (subL s 0 m).length c) (subL s 0 m) := by
  refine .inr ⟨_, c, rfl, fun i hi => ?_⟩
  have hadd : (⟨n, 0, none⟩ : Addr).add i = ⟨n, i, none⟩ := by unfold Addr.add; split <;> simp_all
  have hi2 : i < m := by simpa using hi
  rw [hadd, cell_rowAt h, hs, secA_get s i (by omega), subL_get, Nat.zero_add]
/-- The sector's sum, and the sector with it. -/
def secSum (s : Nat → UInt8) : BitVec 32 := sumL (subL s 0 60)
def sealS (s : Nat → UInt8) : Nat → UInt8 := putN s 60 (secSum s).toNat 4
theorem set_int (s : Nat → UInt8) (i : Nat) (x : Int) (b : UInt8) (hi : i < 64) (hx : x = (b.toNat : Int)) : (secA s).setIfInBounds i (Value.int .u8 x) = secA (upd s i b) := by
  rw [hx]; exact secA_set s i b hi
theorem put_four (s : Nat → UInt8) (x : Nat) : upd (upd (upd (upd s 60 (UInt8.ofNat (x / 256 ^ 0))) 61 (UInt8.ofNat (x / 256 ^ 1))) 62 (UInt8.ofNat (x / 256 ^ 2))) 63 (UInt8.ofNat (x / 256 ^ 3)) = putN s 60 x 4 := by
  rw [putN_succ, putN_succ, putN_succ, putN_succ, putN_zero]
set_option maxHeartbeats 400000 in
theorem refSeal_any (s : Nat → UInt8) (w : World) :
    Calls Try.prog 16 #[.agg (secA s)] w fun e w' => e = .returned (.agg (secA (sealS s))) ∧ Below w.heap.size w w' := by
  have hi : IsB ((w.alloc (.cells (secA s) 35)).alloc (.cells (secA secZ) 35)) (.slice (some ⟨w.heap.size, 0, none⟩) 60 64) (subL s 0 60) := by
    have := sec_isB (w := (w.alloc (.cells (secA s) 35)).alloc (.cells (secA secZ) 35)) (n := w.heap.size) (m := 60) (s := s) 64 (by go_simp) (by go_simp) (by omega)
    rw [subL_length] at this
    exact this
  have hc := refSum_any _ (subL s 0 60) _ (by rw [subL_length]; unfold maxLen; omega) hi
  obtain ⟨x, hx⟩ : ∃ x, (sumL (subL s 0 60)).toNat = x := ⟨_, rfl⟩
  have hn : x < 4294967296 := by rw [← hx]; exact (sumL (subL s 0 60)).isLt
  rw [hx] at hc
  have e0 : sealS s = putN s 60 x 4 := by rw [← hx]; rfl
  rw [e0]
  clear hi hx e0
  have HC := hc
  clear hc
  go_enter Try.func16, Try.ntmps16
  go_wp2_with fail
  refine HC.mono ?_
  rintro e w1 ⟨rfl, rfl⟩
  clear HC
  have q0 : ∀ s, (secA s).setIfInBounds 60 (Value.int .u8 ((x : Int) % 256)) = secA (upd s 60 (UInt8.ofNat (x / 256 ^ 0))) := fun s => set_int s 60 _ _ (by omega) (by simp)
  have q1 : ∀ s, (secA s).setIfInBounds 61 (Value.int .u8 ((x : Int) / 256 % 256)) = secA (upd s 61 (UInt8.ofNat (x / 256 ^ 1))) := fun s => set_int s 61 _ _ (by omega) (by simp)
  have q2 : ∀ s, (secA s).setIfInBounds 62 (Value.int .u8 ((x : Int) / 65536 % 256)) = secA (upd s 62 (UInt8.ofNat (x / 256 ^ 2))) := fun s => set_int s 62 _ _ (by omega) (by simp)
  have q3 : ∀ s, (secA s).setIfInBounds 63 (Value.int .u8 ((x : Int) / 16777216 % 256)) = secA (upd s 63 (UInt8.ofNat (x / 256 ^ 3))) := fun s => set_int s 63 _ _ (by omega) (by simp)
  have q4 : ∀ s, (secA s).setIfInBounds 63 (Value.int .u8 ((x : Int) / 16777216)) = secA (upd s 63 (UInt8.ofNat (x / 256 ^ 3))) := fun s => set_int s 63 _ _ (by omega) (by simp; omega)
  have HP : Hid (upd (upd (upd (upd s 60 (UInt8.ofNat (x / 256 ^ 0))) 61 (UInt8.ofNat (x / 256 ^ 1))) 62 (UInt8.ofNat (x / 256 ^ 2))) 63 (UInt8.ofNat (x / 256 ^ 3)) = putN s 60 x 4) := put_four s x
  generalize UInt8.ofNat (x / 256 ^ 0) = b0 at q0 HP
  generalize UInt8.ofNat (x / 256 ^ 1) = b1 at q1 HP
  generalize UInt8.ofNat (x / 256 ^ 2) = b2 at q2 HP
  generalize UInt8.ofNat (x / 256 ^ 3) = b3 at q3 q4 HP
  go_wp2_with fail
  refine bodyPost_sec 2 (w.heap.size + 1) rfl rfl rfl (by go_simp) ⟨?_, ?_⟩
  · rw [← HP.out]; go_simp
  · exact ((Below.refl _ _).alloc (Nat.le_refl _) _).alloc (by simp) _
theorem k_sec {w x : World} {o : Obj} (hp : Below (w.alloc o).heap.size (w.alloc o) x) : Below w.heap.size w x := ((Below.refl _ _).alloc (Nat.le_refl _) _).trans (hp.mono (by simp))
end Go.Proofs.Ytfdigmlhjjdggaa
namespace Go.Proofs.Ytfdigmlhjjdggaa
open Go.RowKit

/-- A slice of slices of bytes. -/
def IsBB (w : World) (v : Value) (ls : List (List UInt8)) : Prop :=
  (v = .slice none 0 0 ∧ ls = []) ∨ ∃ x c, v = .slice (some x) ls.length c ∧ ∀ i (h : i < ls.length), ∃ u, w.cell? (x.add i) = some u ∧ IsB w u ls[i]
/-- What crc.Sum owes. -/
def SumOk : Prop := ∀ (v : Value) (ls : List (List UInt8)) (w : World), ls.length ≤ maxLen → (∀ l ∈ ls, l.length ≤ maxLen) → IsBB w v ls →
  Calls Try.prog 49 #[v] w fun e w' => e = .returned (.int .u32 ((sumL ls.flatten).toNat : Nat)) ∧ Below w.heap.size w w'
theorem sum_known : sumL [[49, 50, 51, 52], [53, 54, 55, 56, 57]].flatten = 0xCBF43926#32 := by decide +kernel
theorem sum_none : sumL ([] : List (List UInt8)).flatten = 0#32 := by decide +kernel
end Go.Proofs.Ytfdigmlhjjdggaa
namespace Go.Proofs.Ytfdigmlhjjdggaa
open Go.RowKit

/-! The code's own crc -/
set_option maxHeartbeats 400000 in
theorem step_any (n : BitVec 32) (d : UInt8) (w : World) :
    Calls Try.prog 53 #[.int .u32 (n.toNat : Nat), .int .u8 (d.toNat : Nat)] w fun e w' => e = .returned (.int .u32 ((byt n d).toNat : Nat)) ∧ w' = w := by
  have hd := d.toNat_lt
  obtain ⟨m, hm⟩ : ∃ m, n ^^^ BitVec.ofNat 32 d.toNat = m := ⟨_, rfl⟩
  have hx : bits .xor .u32 (n.toNat : Int) (d.toNat : Int) = (m.toNat : Int) := by rw [← hm]; exact xor_byte n d
  have HM : Hid (byt n d = stN 8 m) := by show _ = _; rw [byt, hm]
  clear hm
  go_enter Try.func53, Try.ntmps53
  go_wp2
  go_loop [0, 9] (fun y i => ∃ j : Nat, j ≤ 8 ∧ i = .int .i64 j ∧ y = .int .u32 ((stN j m).toNat : Nat)) (fun _ i => 8 - (intOf i).toNat)
  case atStart => exact ⟨0, by omega, rfl, rfl⟩
  case round =>
    obtain ⟨j, hj, rfl, rfl⟩ := hrel
    by_cases hj8 : j < 8
    · have HJ : Hid (stN (j + 1) m = st (stN j m)) := stN_succ' j m
      generalize stN j m = y at HJ ⊢
      have hy := y.isLt
      have ha := and_one y
      cases hb0 : y.getLsbD 0
      · rw [hb0] at ha
        simp only [cond_false] at ha
        have HZ : Hid ((y.toNat : Int) / (2 : Int) = (((stN (j + 1) m).toNat : Nat) : Int)) := by show _ = _; rw [HJ.out]; exact st_even y hb0
        clear hb0
        go_wp2
        go_round
        case rel => exact ⟨j + 1, by omega, by go_num, by rw [HZ.out]⟩
        case measure => simp [intOf]; omega
      · rw [hb0] at ha
        simp only [cond_true] at ha
        have HZ : Hid (bits .xor .u32 ((y.toNat : Int) / (2 : Int)) 3988292384 = (((stN (j + 1) m).toNat : Nat) : Int)) := by show _ = _; rw [HJ.out]; exact st_odd y hb0
        clear hb0
        go_wp2
        go_round
        case rel => exact ⟨j + 1, by omega, by go_num, by rw [HZ.out]⟩
        case measure => simp [intOf]; omega
    · have HJ : Hid (stN j m = byt n d) := by show _ = _; rw [HM.out, show j = 8 by omega]
      have hj0 : (8 : Int) ≤ (j : Int) := by omega
      generalize stN j m = y at HJ ⊢
      go_wp2
      go_ret
      exact ⟨by rw [HJ.out]; rfl, rfl⟩
theorem IsBB.len {w : World} {v : Value} {ls : List (List UInt8)} (hv : IsBB w v ls) : ∃ x c, v = .slice x ls.length c := by
  rcases hv with ⟨rfl, rfl⟩ | ⟨x, c, rfl, -⟩
  · exact ⟨_, _, rfl⟩
  · exact ⟨_, _, rfl⟩
theorem IsBB.spot {w : World} {x : Option Addr} {c : Nat} {ls : List (List UInt8)} (hv : IsBB w (.slice x ls.length c) ls) (k : Nat) (hk : k < ls.length) :
    ∃ b o z d, x = some ⟨b, o, none⟩ ∧ b < w.heap.size ∧ w.cell? ⟨b, o + k, none⟩ = some (.slice z (ls[k]).length d) ∧ IsB w (.slice z (ls[k]).length d) ls[k] := by
  rcases hv with ⟨_, rfl⟩ | ⟨y, d, he, hc⟩
  · simp at hk
  · simp only [Value.slice.injEq, true_and] at he
    obtain ⟨rfl, rfl⟩ := he
    obtain ⟨u, h9, hu⟩ := hc k hk
    obtain ⟨z, e, rfl⟩ := hu.len
    obtain ⟨b, o, sp⟩ := y
    have hsp : sp = none := by
      obtain ⟨_, h0, _⟩ := hc 0 (by omega)
      simpa [Addr.add] using World.cell?_spot h0
    subst hsp
    have h9' : w.cell? ⟨b, o + k, none⟩ = some (.slice z (ls[k]).length e) := by rw [← h9]; unfold Addr.add; by_cases h0 : k = 0 <;> simp [h0]
    exact ⟨b, o, z, e, rfl, World.block_lt_of_cell? w _ h9', h9', hu⟩
theorem flatten_take_succ (ls : List (List UInt8)) (k : Nat) (h : k < ls.length) : (ls.take (k + 1)).flatten = (ls.take k).flatten ++ ls[k] := by
  rw [List.take_succ_eq_append_getElem h, List.flatten_append]; simp
set_option maxHeartbeats 400000 in
theorem sum_all (v : Value) (ls : List (List UInt8)) (w : World) (hl1 : ls.length ≤ maxLen) (hl2 : ∀ l ∈ ls, l.length ≤ maxLen) (hv : IsBB w v ls) :
    Calls Try.prog 49 #[v] w fun e w' => e = .returned (.int .u32 ((sumL ls.flatten).toNat : Nat)) ∧ w' = w := by
  obtain ⟨x, c, rfl⟩ := hv.len
  have hp := fun k hk => hv.spot k hk
  clear hv
  unfold maxLen at hl1
  go_enter Try.func49, Try.ntmps49
  go_wp2
  go_loop [3, 10] (fun n i => ∃ k : Nat, k ≤ ls.length ∧ i = .int .i64 k ∧ n = .int .u32 ((crcL ones (ls.take k).flatten).toNat : Nat)) (fun _ i => ls.length - (intOf i).toNat)
  case atStart => exact ⟨0, Nat.zero_le _, rfl, by simp only [List.take_zero, List.flatten_nil]; rfl⟩
  case round =>
    obtain ⟨k, hk, rfl, rfl⟩ := hrel
    by_cases hlt : k < ls.length
    · obtain ⟨b, o, z, d, rfl, hb, hc, hz⟩ := hp k hlt
      have hlm : (ls[k]).length ≤ maxLen := hl2 _ (List.getElem_mem hlt)
      clear hp hl2
      have HS : Hid (crcL ones (ls.take (k + 1)).flatten = crcL (crcL ones (ls.take k).flatten) ls[k]) := by show _ = _; rw [flatten_take_succ ls k hlt, crcL_append]
      generalize ls[k] = l at hc hz hlm HS
      generalize crcL ones (ls.take k).flatten = n at HS ⊢
      have hcells := fun k hk => hz.spot k hk
      clear hz
      unfold maxLen at hlm
      have hk0 : (0 : Int) ≤ (k : Int) := by omega
      have hk1 : (k : Int) < (ls.length : Int) := by omega
      go_wp2
      go_loop [3, 16] (fun y i => ∃ j : Nat, j ≤ l.length ∧ i = .int .i64 j ∧ y = .int .u32 ((crcL n (l.take j)).toNat : Nat)) (fun _ i => l.length - (intOf i).toNat)
      case atStart => exact ⟨0, Nat.zero_le _, rfl, by simp only [List.take_zero]; rfl⟩
      case round =>
        obtain ⟨j, hj, rfl, rfl⟩ := hrel
        by_cases hjl : j < l.length
        · obtain ⟨b2, o2, rfl, hb2, hc2⟩ := hcells j hjl
          clear hcells
          have HJ : Hid (crcL n (l.take (j + 1)) = byt (crcL n (l.take j)) (l[j]?.getD 0)) := crcL_take_succ n l j hjl
          generalize crcL n (l.take j) = y at HJ ⊢
          generalize l[j]?.getD 0 = q at hc2 HJ
          have hj0 : (0 : Int) ≤ (j : Int) := by omega
          have hj1 : (j : Int) < (l.length : Int) := by omega
          have HC := step_any y q w
          go_wp2_with fail
          refine HC.mono ?_
          rintro e w1 ⟨rfl, rfl⟩
          clear HC
          rw [← HJ.out]
          go_wp2
          go_round
          case rel => exact ⟨j + 1, by omega, by go_num, rfl⟩
          case measure => simp [intOf]; omega
        · have HJ : Hid (crcL n (l.take j) = crcL ones (ls.take (k + 1)).flatten) := by show _ = _; rw [HS.out, List.take_of_length_le (by omega)]
          generalize crcL n (l.take j) = y at HJ ⊢
          have hj1 : (l.length : Int) ≤ (j : Int) := by omega
          go_wp2
          go_round
          case rel => exact ⟨k + 1, by omega, by go_num, by rw [HJ.out]⟩
          case measure => simp [intOf]; omega
    · obtain rfl : k = ls.length := by omega
      rw [List.take_length]
      go_wp2
      go_ret
      refine ⟨?_, rfl⟩
      show Ending.returned (.int .u32 (bits .xor .u32 IntKind.u32.max (crcL ones ls.flatten).toNat)) = _
      rw [show IntKind.u32.max = ((ones.toNat : Nat) : Int) by decide, xor_vec, BitVec.xor_comm]
      rfl
theorem sum_any : SumOk := fun v ls w h1 h2 h3 => (sum_all v ls w h1 h2 h3).mono fun _ _ h => ⟨h.1, h.2 ▸ Below.refl _ _⟩
theorem sum_one (v : Value) (l : List UInt8) (w : World) (y : Addr) (c : Nat) (hl : l.length ≤ maxLen) (hy : w.cell? y = some v) (hv : IsB w v l) :
    Calls Try.prog 49 #[.slice (some y) 1 c] w fun e w' => e = .returned (.int .u32 ((sumL l).toNat : Nat)) ∧ w' = w := by
  have h := sum_all (.slice (some y) 1 c) [l] w (by unfold maxLen; simp) (by intro m hm; rw [List.mem_singleton] at hm; rw [hm]; exact hl) (.inr ⟨y, c, rfl, fun i hi => ⟨v, ?_, ?_⟩⟩)
  · simpa using h
  · have : i = 0 := by simpa using hi
    subst this; simpa [Addr.add] using hy
  · have : i = 0 := by simpa using hi
    subst this; exact hv
theorem div256 (x k : Nat) : ((x / 256 ^ k : Nat) : Int) / 256 = ((x / 256 ^ (k + 1) : Nat) : Int) := by
  rw [Nat.pow_succ, ← Nat.div_div_eq_div_mul]; omega
set_option maxHeartbeats 400000 in
theorem seal_any (s : Nat → UInt8) (w : World) :
    Calls Try.prog 40 #[.agg (secA s)] w fun e w' => e = .returned (.agg (secA (sealS s))) ∧ Below w.heap.size w w' := by
  have hi : IsB (((w.alloc (.cells (secA s) 35)).alloc (.cells (secA secZ) 35)).alloc (.cells #[.slice (some ⟨w.heap.size, 0, none⟩) 60 64] 75)) (.slice (some ⟨w.heap.size, 0, none⟩) 60 64) (subL s 0 60) := by
    have := sec_isB (w := ((w.alloc (.cells (secA s) 35)).alloc (.cells (secA secZ) 35)).alloc (.cells #[.slice (some ⟨w.heap.size, 0, none⟩) 60 64] 75)) (n := w.heap.size) (m := 60) (s := s) 64 (by go_simp) (by go_simp) (by omega)
    rw [subL_length] at this
    exact this
  have hy : (((w.alloc (.cells (secA s) 35)).alloc (.cells (secA secZ) 35)).alloc (.cells #[.slice (some ⟨w.heap.size, 0, none⟩) 60 64] 75)).cell? ⟨w.heap.size + 1 + 1, 0, none⟩ = some (.slice (some ⟨w.heap.size, 0, none⟩) 60 64) := by go_simp
  have hc := sum_one _ (subL s 0 60) _ ⟨w.heap.size + 1 + 1, 0, none⟩ 1 (by rw [subL_length]; unfold maxLen; omega) hy hi
  obtain ⟨x, hx⟩ : ∃ x, (sumL (subL s 0 60)).toNat = x := ⟨_, rfl⟩
  have hn : x < 4294967296 := by rw [← hx]; exact (sumL (subL s 0 60)).isLt
  rw [hx] at hc
  have e0 : sealS s = putN s 60 x 4 := by rw [← hx]; rfl
  rw [e0]
  clear hi hx e0 hy
  have HC := hc
  clear hc
  go_enter Try.func40, Try.ntmps40
  go_wp2_with fail
  refine HC.mono ?_
  rintro e w1 ⟨rfl, rfl⟩
  clear HC
  go_wp2
  go_loopw [3, 4] (fun v i w' => ∃ k : Nat, k ≤ 4 ∧ i = .int .i64 ((60 + k : Nat) : Int) ∧ v = .int .u32 ((x / 256 ^ k : Nat) : Int) ∧ w' = ((w.alloc (.cells (secA (putN s 60 x k)) 35)).alloc (.cells (secA secZ) 35)).alloc (.cells #[.slice (some ⟨w.heap.size, 0, none⟩) 60 64] 75)) (fun _ i _ => 64 - (intOf i).toNat)
  case atStart => exact ⟨0, Nat.zero_le _, rfl, by simp, by rw [putN_zero]⟩
  case round =>
    obtain ⟨k, hk, rfl, rfl, rfl⟩ := hrel
    by_cases hlt : k < 4
    · have hc := secA_get (putN s 60 x k) (60 + k) (by omega)
      have HS : Hid ((secA (putN s 60 x k)).setIfInBounds (60 + k) (Value.int IntKind.u8 (((x / 256 ^ k : Nat) : Int) % 256)) = secA (putN s 60 x (k + 1))) := by
        show _ = _
        rw [putN_succ]
        exact set_int _ _ _ _ (by omega) (by simp)
      have HD : Hid _ := div256 x k
      have hx2 : x / 256 ^ k < 4294967296 := Nat.lt_of_le_of_lt (Nat.div_le_self _ _) hn
      generalize x / 256 ^ k = y at *
      obtain ⟨i, hi⟩ : ∃ i, 60 + k = i := ⟨_, rfl⟩
      rw [hi] at hc HS ⊢
      have hi1 : (i : Int) < 64 := by omega
      have hi0 : (0 : Int) ≤ (i : Int) := by omega
      go_wp2
      go_roundw
      case rel => exact ⟨k + 1, by omega, by go_num, by rw [HD.out], by rw [HS.out]⟩
      case measure => simp [intOf]; omega
    · have hk4 : k = 4 := by omega
      have HK : Hid (putN s 60 x k = putN s 60 x 4) := by show _ = _; rw [hk4]
      rw [HK.out]
      have hi1 : (64 : Int) ≤ ((60 + k : Nat) : Int) := by omega
      generalize 60 + k = i at hi1 ⊢
      generalize x / 256 ^ k = y at *
      clear hk4
      have hr0 : rowOk (((w.alloc (.cells (secA (putN s 60 x 4)) 35)).alloc (.cells (secA secZ) 35)).alloc (.cells #[.slice (some ⟨w.heap.size, 0, none⟩) 60 64] 75)) w.heap.size = true := by go_simp
      have hr1 : rowOk (((w.alloc (.cells (secA (putN s 60 x 4)) 35)).alloc (.cells (secA secZ) 35)).alloc (.cells #[.slice (some ⟨w.heap.size, 0, none⟩) 60 64] 75)) (w.heap.size + 1) = true := by go_simp
      go_wp2
      refine bodyPost_sec 2 (w.heap.size + 1) rfl rfl rfl (by go_simp) ⟨by go_simp, ?_⟩
      exact (((Below.refl _ _).alloc (Nat.le_refl _) _).alloc (by simp) _).alloc (by simp; omega) _
end Go.Proofs.Ytfdigmlhjjdggaa
namespace Go.Proofs.Ytfdigmlhjjdggaa

/-! Bits turned in a row, as plain mathematics -/
def fbit (s : Nat → UInt8) (j : Nat) : Bool := (s (j / 8)).toNat.testBit (j % 8)
def oneAt (j : Nat) : UInt8 := UInt8.ofNat (2 ^ (j % 8))
def flip (s : Nat → UInt8) (j : Nat) : Nat → UInt8 := upd s (j / 8) (s (j / 8) ^^^ oneAt j)
/-- The bits bit + i with P i turned, i < k. -/
def turnS (s : Nat → UInt8) (P : Nat → Bool) (bit : Nat) : Nat → Nat → UInt8
  | 0 => s
  | k + 1 => bif P k then flip (turnS s P bit k) (bit + k) else turnS s P bit k
def anyP (P : Nat → Bool) : Nat → Bool
  | 0 => false
  | k + 1 => bif P k then true else anyP P k
theorem oneAt_bit (j r : Nat) (hr : r < 8) : (oneAt j).toNat.testBit r = decide (r = j % 8) := by
  have h : ∀ a : Fin 8, ∀ b : Fin 8, (UInt8.ofNat (2 ^ a.val)).toNat.testBit b.val = decide (b.val = a.val) := by decide
  exact h ⟨j % 8, by omega⟩ ⟨r, hr⟩
set_option linter.unusedSimpArgs false in
theorem fbit_flip (s : Nat → UInt8) (j i : Nat) : fbit (flip s j) i = (fbit s i ^^ decide (i = j)) := by
  unfold fbit flip upd
  by_cases h : i / 8 = j / 8
  · simp only [h, if_true, ↓reduceIte]
    rw [UInt8.toNat_xor, Nat.testBit_xor, oneAt_bit j (i % 8) (by omega)]
    congr 1
    by_cases h2 : i % 8 = j % 8
    · have : i = j := by omega
      simp [h2, this]
    · have : i ≠ j := fun e => h2 (by rw [e])
      simp [h2, this]
  · have : i ≠ j := fun e => h (by rw [e])
    simp [h, this]
set_option linter.unusedSimpArgs false in
theorem fbit_turn (s : Nat → UInt8) (P : Nat → Bool) (bit : Nat) : ∀ k j, fbit (turnS s P bit k) j = (fbit s j ^^ (decide (bit ≤ j ∧ j < bit + k) && P (j - bit)))
  | 0, j => by
    have : ¬ (bit ≤ j ∧ j < bit + 0) := by omega
    rw [decide_eq_false this]; simp [turnS]
  | k + 1, j => by
    rw [turnS]
    by_cases h : j = bit + k
    · subst h
      have h1 : ¬ (bit ≤ bit + k ∧ bit + k < bit + k) := by omega
      have h2 : bit ≤ bit + k ∧ bit + k < bit + (k + 1) := by omega
      have h3 : bit + k - bit = k := by omega
      cases hP : P k
      · simp only [cond_false, fbit_turn s P bit k, h1, h2, h3, hP, decide_false, Bool.false_and, Bool.and_false]
      · simp only [cond_true, fbit_flip, fbit_turn s P bit k, h1, h2, h3, hP, decide_false, Bool.false_and]; simp
    · have h1 : decide (bit ≤ j ∧ j < bit + (k + 1)) = decide (bit ≤ j ∧ j < bit + k) := by
        rw [decide_eq_decide]; omega
      rw [h1]
      cases P k
      · simp only [cond_false, fbit_turn s P bit k]
      · simp only [cond_true, fbit_flip, fbit_turn s P bit k, h, decide_false, Bool.xor_false]
theorem anyP_iff (P : Nat → Bool) : ∀ k, anyP P k = true ↔ ∃ i, i < k ∧ P i = true
  | 0 => by simp [anyP]
  | k + 1 => by
    rw [anyP]
    cases hP : P k
    · rw [cond_false, anyP_iff P k]
      constructor
      · rintro ⟨i, h1, h2⟩; exact ⟨i, by omega, h2⟩
      · rintro ⟨i, h1, h2⟩
        refine ⟨i, ?_, h2⟩
        rcases Nat.lt_or_ge i k with h | h
        · exact h
        · have : i = k := by omega
          subst this; rw [hP] at h2; cases h2
    · exact ⟨fun _ => ⟨k, by omega, hP⟩, fun _ => rfl⟩
theorem turnS_none (s : Nat → UInt8) (P : Nat → Bool) (bit : Nat) : ∀ k, anyP P k = false → turnS s P bit k = s
  | 0, _ => rfl
  | k + 1, h => by
    rw [anyP] at h
    cases hP : P k
    · rw [hP, cond_false] at h; rw [turnS, hP, cond_false]; exact turnS_none s P bit k h
    · rw [hP, cond_true] at h; cases h
theorem bitAt_sub (s : Nat → UInt8) (n j : Nat) (h : j < 8 * n) : bitAt (subL s 0 n) j = fbit s j := by
  unfold bitAt fbit
  have h2 : j / 8 < (subL s 0 n).length := by rw [subL_length]; omega
  rw [List.getElem?_eq_getElem h2, Option.getD_some, subL_get, Nat.zero_add]
/-- Turned bits make another sum. -/
theorem turn_sum (s : Nat → UInt8) (P : Nat → Bool) (bit n : Nat) (hP : ∀ i, P i = true → bit + i < 8 * n) (ha : anyP P 32 = true) : sumL (subL s 0 n) ≠ sumL (subL (turnS s P bit 32) 0 n) := by
  refine sumL_differ _ _ bit (by rw [subL_length, subL_length]) (fun k hk hd => ?_) ?_
  · rw [subL_length] at hk
    rw [bitAt_sub s n k hk, bitAt_sub _ n k hk, fbit_turn] at hd
    by_cases h : bit ≤ k ∧ k < bit + 32
    · exact h
    · rw [decide_eq_false h] at hd; simp at hd
  · obtain ⟨i, hi, hPi⟩ := (anyP_iff P 32).1 ha
    have h1 := hP i hPi
    refine ⟨bit + i, by rw [subL_length]; exact h1, ?_⟩
    rw [bitAt_sub s n _ h1, bitAt_sub _ n _ h1, fbit_turn]
    have h2 : bit ≤ bit + i ∧ bit + i < bit + 32 := by omega
    have h3 : bit + i - bit = i := by omega
    rw [decide_eq_true h2, h3, hPi]
    simp
/-! Sealed sectors have one and the same remainder -/
theorem numV_get : ∀ (l : List Bool) (i : Nat), l.length ≤ 32 → i < 32 → (numV l).getLsbD i = l[i]?.getD false
  | [], i, _, _ => by simp [numV]
  | b :: r, i, h, hi => by
    have h' : r.length ≤ 31 := by simpa using h
    rw [numV, BitVec.getLsbD_xor, BitVec.getLsbD_shiftLeft]
    rcases i with _ | i
    · cases b <;> simp [bitV]
    · have e1 : (bitV b).getLsbD (i + 1) = false := by
        cases b
        · simp [bitV]
        · simp only [bitV, cond_true, BitVec.getLsbD_one]; simp
      rw [e1]
      have e2 := numV_get r i (by omega) (by omega)
      simp [hi, e2]
theorem numV_bytes (x : BitVec 32) (l : List UInt8) (hl : l.length = 4) (h : ∀ i, i < 4 → l[i]?.getD 0 = UInt8.ofNat (x.toNat / 256 ^ i)) : numV (bitsL l) = x := by
  apply BitVec.eq_of_getLsbD_eq
  intro i hi
  have hb : (bitsL l).length = 32 := by rw [bitsL_length, hl]
  rw [numV_get _ i (by omega) hi, bitsL_get l i (by omega), Option.getD_some]
  unfold bitAt
  rw [h (i / 8) (by omega), UInt8.toNat_ofNat']
  have e8 : (2 : Nat) ^ 8 = 256 := by decide
  have e : x.getLsbD i = x.toNat.testBit i := rfl
  rw [e, Nat.testBit_mod_two_pow, show (256 : Nat) = 2 ^ 8 from e8.symm, ← Nat.pow_mul, Nat.testBit_div_two_pow]
  have h1 : i % 8 < 8 := by omega
  have h2 : i % 8 + 8 * (i / 8) = i := by omega
  simp [h1, h2]
theorem sealed_rest (s : Nat → UInt8) (h : ∀ i, i < 64 → sealS s i = s i) : sumL (subL s 0 64) = stN 32 ones ^^^ ones := by
  have e : subL s 0 64 = subL s 0 60 ++ subL s 60 4 := by
    apply List.ext_getElem
    · simp
    · intro i h1 h2
      rw [subL_get]
      by_cases hi : i < 60
      · rw [List.getElem_append_left (by simpa using hi), subL_get]
      · rw [List.getElem_append_right (by simpa using hi), subL_get]
        simp only [subL_length]
        congr 1; omega
  have hn : numV (bitsL (subL s 60 4)) = secSum s := by
    refine numV_bytes _ _ (by simp) fun i hi => ?_
    have hlt : i < (subL s 60 4).length := by simpa using hi
    rw [List.getElem?_eq_getElem hlt, Option.getD_some, subL_get, ← h (60 + i) (by omega)]
    unfold sealS putN
    rw [if_pos (by omega), show 60 + i - 60 = i by omega]
  unfold sumL
  rw [e, crcL_append, crcL_feed (subL s 60 4), feed_num _ _ (by rw [bitsL_length]; simp), hn]
  have hl : (bitsL (subL s 60 4)).length = 32 := by rw [bitsL_length]; simp
  rw [hl]
  unfold secSum sumL
  rw [← BitVec.xor_assoc, BitVec.xor_self, BitVec.zero_xor]
theorem sealS_idem (s : Nat → UInt8) : sealS (sealS s) = sealS s := by
  have e : secSum (sealS s) = secSum s := by
    unfold secSum
    congr 1
  funext j
  unfold sealS at *
  rw [e]
  unfold putN
  split <;> rfl
/-- A sealed sector whose bits are turned, up to 32 in a row: not sealed. -/
theorem turn_sealed (s : Nat → UInt8) (P : Nat → Bool) (bit : Nat) (hP : ∀ i, P i = true → bit + i < 512) : secEq (sealS (turnS (sealS s) P bit 32)) (turnS (sealS s) P bit 32) = !(anyP P 32) := by
  cases ha : anyP P 32
  · rw [turnS_none _ _ _ _ ha, sealS_idem]
    exact (secEq_iff _ _).2 fun _ _ => rfl
  · rw [Bool.not_true]
    cases hq : secEq (sealS (turnS (sealS s) P bit 32)) (turnS (sealS s) P bit 32)
    · rfl
    · exfalso
      have h1 := sealed_rest _ ((secEq_iff _ _).1 hq)
      have h2 := sealed_rest (sealS s) (fun i _ => by rw [sealS_idem])
      exact turn_sum (sealS s) P bit 64 (fun i h => by have := hP i h; omega) ha (by rw [h2, h1])
end Go.Proofs.Ytfdigmlhjjdggaa
