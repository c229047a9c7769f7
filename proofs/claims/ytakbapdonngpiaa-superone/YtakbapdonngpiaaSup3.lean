
import Derived.Test.YtakbapdonngpiaaSup2
import Derived.Test.YtakbapdonngpiaaRowg
import Derived.Deep.DeepCutAuto
namespace Go.Proofs.Ytakbapdonngpiaa
open Go.RowKit

/-! SuperOne's walk -/
def chA (a : Int) (y : UInt8) (m : Int) : Array Value := #[.int .i64 a, .int .u8 (y.toNat : Int), .int .i64 m]
theorem uint_mod11 (z : Int) : ∃ k : Nat, k < 64 ∧ wrap64 ((IntKind.u64.wrap z).tmod 64) = (k : Int) ∧ wrap64 ((IntKind.u64.wrap z) % 64) = (k : Int) := by
  have h0 : 0 ≤ IntKind.u64.wrap z := by rw [IntKind.wrap_u64]; omega
  rw [Int.tmod_eq_emod_of_nonneg h0]
  obtain ⟨k, hk⟩ := Int.eq_ofNat_of_zero_le (show 0 ≤ (IntKind.u64.wrap z) % 64 by omega)
  refine ⟨k, by omega, ?_, ?_⟩ <;> · rw [hk]; unfold wrap64; omega
set_option maxRecDepth 100000 in
set_option maxHeartbeats 400000 in
theorem lawSuperOne_any (hP : SPutOk) (hI : SIsOk) (n : Int) (a : Int) (y : UInt8) (m : Int) (w : World) (hn0 : -9223372036854775808 ≤ n) (hn1 : n ≤ 9223372036854775807) (hm0 : -9223372036854775808 ≤ m) (hm1 : m ≤ 9223372036854775807) :
    Calls Try.prog 3 #[.int .i64 n, .agg (chA a y m)] w fun e w' => e = .returned (.bool true) ∧ Below w.heap.size w w' := by
  have p1 := fun w => hP n w hn0 hn1
  unfold chA
  go_enter Try.func3, Try.ntmps3
  go_upto_region 1 with fail
  have hB0 : Below w.heap.size w (w.alloc (.cells #[Value.int .i64 a, Value.int .u8 (y.toNat : Int), Value.int .i64 m] 23)) := below_alloc _ _
  have hR0 : RowC (w.alloc (.cells #[Value.int .i64 a, Value.int .u8 (y.toNat : Int), Value.int .i64 m] 23)) w.heap.size #[Value.int .i64 a, Value.int .u8 (y.toNat : Int), Value.int .i64 m] := RowC.new _ _ _
  obtain ⟨g0, hg0⟩ : ∃ g, w.heap.size = g := ⟨_, rfl⟩
  rw [hg0] at hR0
  simp only [hg0]
  clear hg0
  generalize w.alloc (.cells #[Value.int .i64 a, Value.int .u8 (y.toNat : Int), Value.int .i64 m] 23) = X at hB0 hR0 ⊢
  have c0 : X.cell? ⟨g0, 0, none⟩ = some (.int .i64 a) := hR0.cell 0
  have c1 : X.cell? ⟨g0, 1, none⟩ = some (.int .u8 (y.toNat : Int)) := hR0.cell 1
  have c2 : X.cell? ⟨g0, 2, none⟩ = some (.int .i64 m) := hR0.cell 2
  have HB0 : Hid (∀ n, Below w.heap.size w (X.drewN n)) := fun n => ⟨hB0.os, hB0.tape, hB0.output, hB0.size, hB0.block⟩
  clear hR0 hB0
  go_quiet (fail)
  clear c0 c1 c2
  go_wp2_with fail
  go_at_call 5
  refine (p1 _).mono ?_
  rintro e w1 ⟨rfl, hb1⟩
  clear p1
  have hB1 : Below w.heap.size w w1 := (HB0.out _).trans (hb1.mono (Below.size (HB0.out _)))
  clear hb1 HB0
  unfold supR supE
  cases hok : supOk n
  · have hor : n < 64 ∨ (¬ n < 64 ∧ 1024 < n) := by
      have : ¬ (64 ≤ n ∧ n ≤ 1024) := fun h => by rw [(supOk_iff n).2 h] at hok; cases hok
      omega
    have hB2 := hB1.alloc hB1.size (.cells (secA secZ) 25)
    have hzz := secEq_refl7 secZ
    simp only [cond_false]
    clear hok
    rcases hor with h | ⟨h, h2⟩
    all_goals
      go_wp2_with fail
      go_at_call 6
      refine (known11_any hP hI _).mono ?_
      rintro e w5 ⟨rfl, hb5⟩
      have hB4 := hB2.trans (hb5.mono hB2.size)
      clear hB2 hb5 hB1
      go_wp2
      go_ret
      exact ⟨rfl, hB4⟩
  · simp only [cond_true]
    have HI1 : Hid (∀ w, Calls Try.prog 7 #[.agg (secA (supS n.toNat)), .int .i64 n] w fun e w' => e = .returned (.bool true) ∧ Below w.heap.size w w') := fun w => by
      have := hI (supS n.toNat) n w hn0 hn1
      rw [one_self n hok] at this
      exact this
    have HI2 : Hid (∀ j, j < 64 → ∀ w, Calls Try.prog 7 #[.agg (secA (upd (supS n.toNat) j (supS n.toNat j ^^^ (y ||| 1)))), .int .i64 n] w fun e w' => e = .returned (.bool false) ∧ Below w.heap.size w w') := fun j hj w => by
      have := hI (upd (supS n.toNat) j (supS n.toNat j ^^^ (y ||| 1))) n w hn0 hn1
      rw [one_turn n j y hj] at this
      exact this
    have HI3 : Hid (m ≠ n → ∀ w, Calls Try.prog 7 #[.agg (secA (supS n.toNat)), .int .i64 m] w fun e w' => e = .returned (.bool false) ∧ Below w.heap.size w w') := fun hne w => by
      have := hI (supS n.toNat) m w hm0 hm1
      rw [one_other n m hok hne] at this
      exact this
    clear hok
    generalize supS n.toNat = s at HI1 HI2 HI3 ⊢
    have hR8 : ScR (w1.alloc (.cells (secA s) 25)) w1.heap.size s := ScR.new _ _ _
    have hB2 := hB1.alloc hB1.size (.cells (secA s) 25)
    have hgw : w.heap.size ≤ w1.heap.size := hB1.size
    clear hB1
    go_upto_region 5 with fail
    generalize w1.alloc (.cells (secA s) 25) = X1 at hR8 hB2 ⊢
    generalize w1.heap.size = g8 at hR8 hgw ⊢
    by_cases hmn : m = n
    · subst hmn
      obtain ⟨w2, rfl⟩ : ∃ w2, w2 = X1 := ⟨_, rfl⟩
      have hR8' := hR8
      obtain ⟨r1, q1⟩ := hR8'
      go_upto_region 8 with fail
      clear r1 q1
      have hRt : ScR (w2.alloc (.cells (secA s) 25)) w2.heap.size s := ScR.new _ _ _
      have hg8 : g8 ≠ w2.heap.size := by have := ScR.lt hR8; omega
      replace hR8 := hR8.kept (below_alloc w2 (.cells (secA s) 25))
      have hgw2 : w.heap.size ≤ w2.heap.size := hB2.size
      replace hB2 := hB2.alloc hB2.size (.cells (secA s) 25)
      generalize w2.alloc (.cells (secA s) 25) = X2 at hR8 hRt hB2 ⊢
      generalize w2.heap.size = gt at hRt hgw2 hg8 ⊢
      obtain ⟨j, hj, hj1, hj2⟩ := uint_mod11 a
      have hcj := hRt.cell j hj
      have hfj := hRt.frozen j
      obtain ⟨Y, hYd⟩ : ∃ Y, y ||| 1 = Y := ⟨_, rfl⟩
      obtain ⟨B, hBd⟩ : ∃ B, s j ^^^ Y = B := ⟨_, rfl⟩
      have hor : bits .or .u8 (y.toNat : Int) 1 = (Y.toNat : Int) := by
        have := u8_or_nat y.toNat 1 y.toNat_lt (by omega)
        rw [show ((1 : Nat) : Int) = 1 from rfl] at this
        rw [this, ← hYd, UInt8.toNat_or]; rfl
      have hxr : bits .xor .u8 ((s j).toNat : Int) (Y.toNat : Int) = (B.toNat : Int) := by
        rw [u8_xor_nat _ _ (s j).toNat_lt Y.toNat_lt, ← hBd, UInt8.toNat_xor]
      have hj0 : (0 : Int) ≤ (j : Int) := by omega
      have hj64 : (j : Int) < 64 := by omega
      have HT : Hid (ScR (X2.setCell ⟨gt, j, none⟩ (.int .u8 (B.toNat : Int))) gt (upd s j B)) := hRt.set j B hj
      have H8 : Hid (ScR (X2.setCell ⟨gt, j, none⟩ (.int .u8 (B.toNat : Int))) g8 s) := hR8.set_ne _ _ (fun e => hg8 e.symm)
      have HB3 : Hid (Below w.heap.size w (X2.setCell ⟨gt, j, none⟩ (.int .u8 (B.toNat : Int)))) := hB2.setCell (p := ⟨gt, j, none⟩) hgw2 _
      have i2 := HI2.out j hj
      rw [hYd, hBd] at i2
      have I2 : Hid _ := i2
      clear hRt hR8 hB2 hBd HI2 i2 hYd
      go_upto_region 9 with fail
      clear hcj hfj hor hxr
      generalize X2.setCell ⟨gt, j, none⟩ (.int .u8 (B.toNat : Int)) = X3 at HT H8 HB3 ⊢
      obtain ⟨r1, q1⟩ := H8.out
      go_wp2_with fail
      go_at_call 7
      refine (HI1.out _).mono ?_
      rintro e w4 ⟨rfl, hb4⟩
      clear r1 q1
      have hB4 := HB3.out.trans (hb4.mono (Below.size HB3.out))
      obtain ⟨r1, q1⟩ := ScR.kept HT.out hb4
      clear HT H8 HB3 hb4 HI1
      go_wp2_with fail
      go_at_call 7
      refine (I2.out _).mono ?_
      rintro e w5 ⟨rfl, hb5⟩
      have hB5 := hB4.trans (hb5.mono hB4.size)
      clear hB4 hb5 r1 q1 I2
      go_wp2_with fail
      go_at_call 6
      refine (known11_any hP hI _).mono ?_
      rintro e w6 ⟨rfl, hb6⟩
      have hB6 := hB5.trans (hb6.mono hB5.size)
      clear hB5 hb6
      go_wp2
      go_ret
      exact ⟨rfl, hB6⟩
    · have hmn' : (m != n) = true := by simp [hmn]
      have HR : Hid (ScR X1 g8 s) := hR8
      obtain ⟨r1, q1⟩ := hR8
      go_wp2_with fail
      go_at_call 7
      refine (HI3.out hmn _).mono ?_
      rintro e w2 ⟨rfl, hb2⟩
      have hR8 := ScR.kept HR.out hb2
      replace hB2 := hB2.trans (hb2.mono hB2.size)
      clear HR r1 q1 hb2
      have hR8' := hR8
      obtain ⟨r1, q1⟩ := hR8'
      go_upto_region 8 with fail
      clear r1 q1
      have hRt : ScR (w2.alloc (.cells (secA s) 25)) w2.heap.size s := ScR.new _ _ _
      have hg8 : g8 ≠ w2.heap.size := by have := ScR.lt hR8; omega
      replace hR8 := hR8.kept (below_alloc w2 (.cells (secA s) 25))
      have hgw2 : w.heap.size ≤ w2.heap.size := hB2.size
      replace hB2 := hB2.alloc hB2.size (.cells (secA s) 25)
      generalize w2.alloc (.cells (secA s) 25) = X2 at hR8 hRt hB2 ⊢
      generalize w2.heap.size = gt at hRt hgw2 hg8 ⊢
      obtain ⟨j, hj, hj1, hj2⟩ := uint_mod11 a
      have hcj := hRt.cell j hj
      have hfj := hRt.frozen j
      obtain ⟨Y, hYd⟩ : ∃ Y, y ||| 1 = Y := ⟨_, rfl⟩
      obtain ⟨B, hBd⟩ : ∃ B, s j ^^^ Y = B := ⟨_, rfl⟩
      have hor : bits .or .u8 (y.toNat : Int) 1 = (Y.toNat : Int) := by
        have := u8_or_nat y.toNat 1 y.toNat_lt (by omega)
        rw [show ((1 : Nat) : Int) = 1 from rfl] at this
        rw [this, ← hYd, UInt8.toNat_or]; rfl
      have hxr : bits .xor .u8 ((s j).toNat : Int) (Y.toNat : Int) = (B.toNat : Int) := by
        rw [u8_xor_nat _ _ (s j).toNat_lt Y.toNat_lt, ← hBd, UInt8.toNat_xor]
      have hj0 : (0 : Int) ≤ (j : Int) := by omega
      have hj64 : (j : Int) < 64 := by omega
      have HT : Hid (ScR (X2.setCell ⟨gt, j, none⟩ (.int .u8 (B.toNat : Int))) gt (upd s j B)) := hRt.set j B hj
      have H8 : Hid (ScR (X2.setCell ⟨gt, j, none⟩ (.int .u8 (B.toNat : Int))) g8 s) := hR8.set_ne _ _ (fun e => hg8 e.symm)
      have HB3 : Hid (Below w.heap.size w (X2.setCell ⟨gt, j, none⟩ (.int .u8 (B.toNat : Int)))) := hB2.setCell (p := ⟨gt, j, none⟩) hgw2 _
      have i2 := HI2.out j hj
      rw [hYd, hBd] at i2
      have I2 : Hid _ := i2
      clear hRt hR8 hB2 hBd HI2 i2 hYd
      go_upto_region 9 with fail
      clear hcj hfj hor hxr
      generalize X2.setCell ⟨gt, j, none⟩ (.int .u8 (B.toNat : Int)) = X3 at HT H8 HB3 ⊢
      obtain ⟨r1, q1⟩ := H8.out
      go_wp2_with fail
      go_at_call 7
      refine (HI1.out _).mono ?_
      rintro e w4 ⟨rfl, hb4⟩
      clear r1 q1
      have hB4 := HB3.out.trans (hb4.mono (Below.size HB3.out))
      obtain ⟨r1, q1⟩ := ScR.kept HT.out hb4
      clear HT H8 HB3 hb4 HI1
      go_wp2_with fail
      go_at_call 7
      refine (I2.out _).mono ?_
      rintro e w5 ⟨rfl, hb5⟩
      have hB5 := hB4.trans (hb5.mono hB4.size)
      clear hB4 hb5 r1 q1 I2
      go_wp2_with fail
      go_at_call 6
      refine (known11_any hP hI _).mono ?_
      rintro e w6 ⟨rfl, hb6⟩
      have hB6 := hB5.trans (hb6.mono hB5.size)
      clear hB5 hb6
      go_wp2
      go_ret
      exact ⟨rfl, hB6⟩
end Go.Proofs.Ytakbapdonngpiaa
