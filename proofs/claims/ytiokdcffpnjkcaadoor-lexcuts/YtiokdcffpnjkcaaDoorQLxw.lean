import Derived.Test.YtiokdcffpnjkcaaDoorQLxs
namespace Go.Proofs.YtiokdcffpnjkcaaDoor
open Go.RowKit

/-! lex.inWord, lex.word -/
def inWv (v : Nat) : Bool := decide (97 ≤ v ∧ v ≤ 122) || decide (65 ≤ v ∧ v ≤ 90) || decide (48 ≤ v ∧ v ≤ 57) || decide (v = 95) || decide (v = 43) || decide (v = 45) || decide (v = 46)
theorem inW_byte (b : UInt8) : inW b = inWv b.toNat := rfl
theorem inWv_high {v : Nat} (h : 128 ≤ v) : inWv v = false := by unfold inWv; simp; omega
set_option linter.unusedSimpArgs false in
set_option maxRecDepth 100000 in
set_option maxHeartbeats 4000000 in
theorem inWord_any (v : Nat) (w : World) : Calls Tryd.prog 40 #[.int .i32 (v : Int)] w fun e w' => e = .returned (.bool (inWv v)) ∧ w' = w := by
  rcases (by omega : v ≤ 42 ∨ (43 ≤ v ∧ v ≤ 43) ∨ (44 ≤ v ∧ v ≤ 44) ∨ (45 ≤ v ∧ v ≤ 45) ∨ (46 ≤ v ∧ v ≤ 46) ∨ (47 ≤ v ∧ v ≤ 47) ∨ (48 ≤ v ∧ v ≤ 57) ∨ (58 ≤ v ∧ v ≤ 64) ∨ (65 ≤ v ∧ v ≤ 90) ∨ (91 ≤ v ∧ v ≤ 94) ∨ (95 ≤ v ∧ v ≤ 95) ∨ (96 ≤ v ∧ v ≤ 96) ∨ (97 ≤ v ∧ v ≤ 122) ∨ 123 ≤ v) with hr | hr | hr | hr | hr | hr | hr | hr | hr | hr | hr | hr | hr | hr
  · have c1 : ¬ (97 : Int) ≤ (v : Int) := by omega
    have c2 : ¬ (65 : Int) ≤ (v : Int) := by omega
    have c3 : ¬ (48 : Int) ≤ (v : Int) := by omega
    have c4 : (v : Int) ≤ 122 := by omega
    have c5 : (v : Int) ≤ 90 := by omega
    have c6 : (v : Int) ≤ 57 := by omega
    have c7 : ((v : Int) == 95) = false := beq_eq_false_iff_ne.2 (by omega)
    have c8 : ((v : Int) == 43) = false := beq_eq_false_iff_ne.2 (by omega)
    have c9 : ((v : Int) == 45) = false := beq_eq_false_iff_ne.2 (by omega)
    have c10 : ((v : Int) == 46) = false := beq_eq_false_iff_ne.2 (by omega)
    rw [show inWv v = false by unfold inWv; simp; omega]
    clear hr
    go_enter Tryd.func40, Tryd.ntmps40
    go_wp2
    go_ret
    exact ⟨rfl, rfl⟩
  · have c1 : ¬ (97 : Int) ≤ (v : Int) := by omega
    have c2 : ¬ (65 : Int) ≤ (v : Int) := by omega
    have c3 : ¬ (48 : Int) ≤ (v : Int) := by omega
    have c4 : (v : Int) ≤ 122 := by omega
    have c5 : (v : Int) ≤ 90 := by omega
    have c6 : (v : Int) ≤ 57 := by omega
    have c7 : ((v : Int) == 95) = false := beq_eq_false_iff_ne.2 (by omega)
    have c8 : ((v : Int) == 43) = true := beq_iff_eq.2 (by omega)
    have c9 : ((v : Int) == 45) = false := beq_eq_false_iff_ne.2 (by omega)
    have c10 : ((v : Int) == 46) = false := beq_eq_false_iff_ne.2 (by omega)
    rw [show inWv v = true by unfold inWv; simp; omega]
    clear hr
    go_enter Tryd.func40, Tryd.ntmps40
    go_wp2
    go_ret
    exact ⟨rfl, rfl⟩
  · have c1 : ¬ (97 : Int) ≤ (v : Int) := by omega
    have c2 : ¬ (65 : Int) ≤ (v : Int) := by omega
    have c3 : ¬ (48 : Int) ≤ (v : Int) := by omega
    have c4 : (v : Int) ≤ 122 := by omega
    have c5 : (v : Int) ≤ 90 := by omega
    have c6 : (v : Int) ≤ 57 := by omega
    have c7 : ((v : Int) == 95) = false := beq_eq_false_iff_ne.2 (by omega)
    have c8 : ((v : Int) == 43) = false := beq_eq_false_iff_ne.2 (by omega)
    have c9 : ((v : Int) == 45) = false := beq_eq_false_iff_ne.2 (by omega)
    have c10 : ((v : Int) == 46) = false := beq_eq_false_iff_ne.2 (by omega)
    rw [show inWv v = false by unfold inWv; simp; omega]
    clear hr
    go_enter Tryd.func40, Tryd.ntmps40
    go_wp2
    go_ret
    exact ⟨rfl, rfl⟩
  · have c1 : ¬ (97 : Int) ≤ (v : Int) := by omega
    have c2 : ¬ (65 : Int) ≤ (v : Int) := by omega
    have c3 : ¬ (48 : Int) ≤ (v : Int) := by omega
    have c4 : (v : Int) ≤ 122 := by omega
    have c5 : (v : Int) ≤ 90 := by omega
    have c6 : (v : Int) ≤ 57 := by omega
    have c7 : ((v : Int) == 95) = false := beq_eq_false_iff_ne.2 (by omega)
    have c8 : ((v : Int) == 43) = false := beq_eq_false_iff_ne.2 (by omega)
    have c9 : ((v : Int) == 45) = true := beq_iff_eq.2 (by omega)
    have c10 : ((v : Int) == 46) = false := beq_eq_false_iff_ne.2 (by omega)
    rw [show inWv v = true by unfold inWv; simp; omega]
    clear hr
    go_enter Tryd.func40, Tryd.ntmps40
    go_wp2
    go_ret
    exact ⟨rfl, rfl⟩
  · have c1 : ¬ (97 : Int) ≤ (v : Int) := by omega
    have c2 : ¬ (65 : Int) ≤ (v : Int) := by omega
    have c3 : ¬ (48 : Int) ≤ (v : Int) := by omega
    have c4 : (v : Int) ≤ 122 := by omega
    have c5 : (v : Int) ≤ 90 := by omega
    have c6 : (v : Int) ≤ 57 := by omega
    have c7 : ((v : Int) == 95) = false := beq_eq_false_iff_ne.2 (by omega)
    have c8 : ((v : Int) == 43) = false := beq_eq_false_iff_ne.2 (by omega)
    have c9 : ((v : Int) == 45) = false := beq_eq_false_iff_ne.2 (by omega)
    have c10 : ((v : Int) == 46) = true := beq_iff_eq.2 (by omega)
    rw [show inWv v = true by unfold inWv; simp; omega]
    clear hr
    go_enter Tryd.func40, Tryd.ntmps40
    go_wp2
    go_ret
    exact ⟨rfl, rfl⟩
  · have c1 : ¬ (97 : Int) ≤ (v : Int) := by omega
    have c2 : ¬ (65 : Int) ≤ (v : Int) := by omega
    have c3 : ¬ (48 : Int) ≤ (v : Int) := by omega
    have c4 : (v : Int) ≤ 122 := by omega
    have c5 : (v : Int) ≤ 90 := by omega
    have c6 : (v : Int) ≤ 57 := by omega
    have c7 : ((v : Int) == 95) = false := beq_eq_false_iff_ne.2 (by omega)
    have c8 : ((v : Int) == 43) = false := beq_eq_false_iff_ne.2 (by omega)
    have c9 : ((v : Int) == 45) = false := beq_eq_false_iff_ne.2 (by omega)
    have c10 : ((v : Int) == 46) = false := beq_eq_false_iff_ne.2 (by omega)
    rw [show inWv v = false by unfold inWv; simp; omega]
    clear hr
    go_enter Tryd.func40, Tryd.ntmps40
    go_wp2
    go_ret
    exact ⟨rfl, rfl⟩
  · have c1 : ¬ (97 : Int) ≤ (v : Int) := by omega
    have c2 : ¬ (65 : Int) ≤ (v : Int) := by omega
    have c3 : (48 : Int) ≤ (v : Int) := by omega
    have c4 : (v : Int) ≤ 122 := by omega
    have c5 : (v : Int) ≤ 90 := by omega
    have c6 : (v : Int) ≤ 57 := by omega
    have c7 : ((v : Int) == 95) = false := beq_eq_false_iff_ne.2 (by omega)
    have c8 : ((v : Int) == 43) = false := beq_eq_false_iff_ne.2 (by omega)
    have c9 : ((v : Int) == 45) = false := beq_eq_false_iff_ne.2 (by omega)
    have c10 : ((v : Int) == 46) = false := beq_eq_false_iff_ne.2 (by omega)
    rw [show inWv v = true by unfold inWv; simp; omega]
    clear hr
    go_enter Tryd.func40, Tryd.ntmps40
    go_wp2
    go_ret
    exact ⟨rfl, rfl⟩
  · have c1 : ¬ (97 : Int) ≤ (v : Int) := by omega
    have c2 : ¬ (65 : Int) ≤ (v : Int) := by omega
    have c3 : (48 : Int) ≤ (v : Int) := by omega
    have c4 : (v : Int) ≤ 122 := by omega
    have c5 : (v : Int) ≤ 90 := by omega
    have c6 : ¬ (v : Int) ≤ 57 := by omega
    have c7 : ((v : Int) == 95) = false := beq_eq_false_iff_ne.2 (by omega)
    have c8 : ((v : Int) == 43) = false := beq_eq_false_iff_ne.2 (by omega)
    have c9 : ((v : Int) == 45) = false := beq_eq_false_iff_ne.2 (by omega)
    have c10 : ((v : Int) == 46) = false := beq_eq_false_iff_ne.2 (by omega)
    rw [show inWv v = false by unfold inWv; simp; omega]
    clear hr
    go_enter Tryd.func40, Tryd.ntmps40
    go_wp2
    go_ret
    exact ⟨rfl, rfl⟩
  · have c1 : ¬ (97 : Int) ≤ (v : Int) := by omega
    have c2 : (65 : Int) ≤ (v : Int) := by omega
    have c3 : (48 : Int) ≤ (v : Int) := by omega
    have c4 : (v : Int) ≤ 122 := by omega
    have c5 : (v : Int) ≤ 90 := by omega
    have c6 : ¬ (v : Int) ≤ 57 := by omega
    have c7 : ((v : Int) == 95) = false := beq_eq_false_iff_ne.2 (by omega)
    have c8 : ((v : Int) == 43) = false := beq_eq_false_iff_ne.2 (by omega)
    have c9 : ((v : Int) == 45) = false := beq_eq_false_iff_ne.2 (by omega)
    have c10 : ((v : Int) == 46) = false := beq_eq_false_iff_ne.2 (by omega)
    rw [show inWv v = true by unfold inWv; simp; omega]
    clear hr
    go_enter Tryd.func40, Tryd.ntmps40
    go_wp2
    go_ret
    exact ⟨rfl, rfl⟩
  · have c1 : ¬ (97 : Int) ≤ (v : Int) := by omega
    have c2 : (65 : Int) ≤ (v : Int) := by omega
    have c3 : (48 : Int) ≤ (v : Int) := by omega
    have c4 : (v : Int) ≤ 122 := by omega
    have c5 : ¬ (v : Int) ≤ 90 := by omega
    have c6 : ¬ (v : Int) ≤ 57 := by omega
    have c7 : ((v : Int) == 95) = false := beq_eq_false_iff_ne.2 (by omega)
    have c8 : ((v : Int) == 43) = false := beq_eq_false_iff_ne.2 (by omega)
    have c9 : ((v : Int) == 45) = false := beq_eq_false_iff_ne.2 (by omega)
    have c10 : ((v : Int) == 46) = false := beq_eq_false_iff_ne.2 (by omega)
    rw [show inWv v = false by unfold inWv; simp; omega]
    clear hr
    go_enter Tryd.func40, Tryd.ntmps40
    go_wp2
    go_ret
    exact ⟨rfl, rfl⟩
  · have c1 : ¬ (97 : Int) ≤ (v : Int) := by omega
    have c2 : (65 : Int) ≤ (v : Int) := by omega
    have c3 : (48 : Int) ≤ (v : Int) := by omega
    have c4 : (v : Int) ≤ 122 := by omega
    have c5 : ¬ (v : Int) ≤ 90 := by omega
    have c6 : ¬ (v : Int) ≤ 57 := by omega
    have c7 : ((v : Int) == 95) = true := beq_iff_eq.2 (by omega)
    have c8 : ((v : Int) == 43) = false := beq_eq_false_iff_ne.2 (by omega)
    have c9 : ((v : Int) == 45) = false := beq_eq_false_iff_ne.2 (by omega)
    have c10 : ((v : Int) == 46) = false := beq_eq_false_iff_ne.2 (by omega)
    rw [show inWv v = true by unfold inWv; simp; omega]
    clear hr
    go_enter Tryd.func40, Tryd.ntmps40
    go_wp2
    go_ret
    exact ⟨rfl, rfl⟩
  · have c1 : ¬ (97 : Int) ≤ (v : Int) := by omega
    have c2 : (65 : Int) ≤ (v : Int) := by omega
    have c3 : (48 : Int) ≤ (v : Int) := by omega
    have c4 : (v : Int) ≤ 122 := by omega
    have c5 : ¬ (v : Int) ≤ 90 := by omega
    have c6 : ¬ (v : Int) ≤ 57 := by omega
    have c7 : ((v : Int) == 95) = false := beq_eq_false_iff_ne.2 (by omega)
    have c8 : ((v : Int) == 43) = false := beq_eq_false_iff_ne.2 (by omega)
    have c9 : ((v : Int) == 45) = false := beq_eq_false_iff_ne.2 (by omega)
    have c10 : ((v : Int) == 46) = false := beq_eq_false_iff_ne.2 (by omega)
    rw [show inWv v = false by unfold inWv; simp; omega]
    clear hr
    go_enter Tryd.func40, Tryd.ntmps40
    go_wp2
    go_ret
    exact ⟨rfl, rfl⟩
  · have c1 : (97 : Int) ≤ (v : Int) := by omega
    have c2 : (65 : Int) ≤ (v : Int) := by omega
    have c3 : (48 : Int) ≤ (v : Int) := by omega
    have c4 : (v : Int) ≤ 122 := by omega
    have c5 : ¬ (v : Int) ≤ 90 := by omega
    have c6 : ¬ (v : Int) ≤ 57 := by omega
    have c7 : ((v : Int) == 95) = false := beq_eq_false_iff_ne.2 (by omega)
    have c8 : ((v : Int) == 43) = false := beq_eq_false_iff_ne.2 (by omega)
    have c9 : ((v : Int) == 45) = false := beq_eq_false_iff_ne.2 (by omega)
    have c10 : ((v : Int) == 46) = false := beq_eq_false_iff_ne.2 (by omega)
    rw [show inWv v = true by unfold inWv; simp; omega]
    clear hr
    go_enter Tryd.func40, Tryd.ntmps40
    go_wp2
    go_ret
    exact ⟨rfl, rfl⟩
  · have c1 : (97 : Int) ≤ (v : Int) := by omega
    have c2 : (65 : Int) ≤ (v : Int) := by omega
    have c3 : (48 : Int) ≤ (v : Int) := by omega
    have c4 : ¬ (v : Int) ≤ 122 := by omega
    have c5 : ¬ (v : Int) ≤ 90 := by omega
    have c6 : ¬ (v : Int) ≤ 57 := by omega
    have c7 : ((v : Int) == 95) = false := beq_eq_false_iff_ne.2 (by omega)
    have c8 : ((v : Int) == 43) = false := beq_eq_false_iff_ne.2 (by omega)
    have c9 : ((v : Int) == 45) = false := beq_eq_false_iff_ne.2 (by omega)
    have c10 : ((v : Int) == 46) = false := beq_eq_false_iff_ne.2 (by omega)
    rw [show inWv v = false by unfold inWv; simp; omega]
    clear hr
    go_enter Tryd.func40, Tryd.ntmps40
    go_wp2
    go_ret
    exact ⟨rfl, rfl⟩
/-- What a rune at the front says of the word. -/
theorem word_rn (x : List UInt8) (hx : 0 < x.length) : inWv (stR (rn x)).1 = inW (lB x 0) ∧ (inW (lB x 0) = true → (stR (rn x)).2 = 1) := by
  by_cases h1 : (lB x 0).toNat < 128
  · have e : rn x = ((lB x 0).toNat, 1) := by rw [rn_b x _ (by omega) rfl, if_pos h1]
    rw [e]
    exact ⟨rfl, fun _ => rfl⟩
  · have hb : inW (lB x 0) = false := by rw [inW_byte]; exact inWv_high (by omega)
    refine ⟨?_, fun h => by rw [hb] at h; cases h⟩
    rw [hb]
    apply inWv_high
    unfold stR
    split
    · show 128 ≤ 65533; omega
    · rename_i h0
      have h9 := enc_rn x (rn x).1 (rn x).2 rfl h0
      obtain ⟨ht, hv, hn⟩ := h9
      rcases Nat.lt_or_ge (rn x).1 128 with h | h
      · exfalso
        rw [enc_small _ h] at ht
        have hn1 : (rn x).2 = 1 := by
          have := congrArg List.length ht
          rw [List.length_take] at this
          simp at this
          omega
        rw [hn1, take1 x hx] at ht
        have h5 : lB x 0 = u8 (rn x).1 := (List.cons.inj ht).1
        have h6 := congrArg UInt8.toNat h5
        rw [u8_at (rn x).1 (by omega)] at h6
        omega
      · exact h
set_option linter.unusedSimpArgs false in
set_option maxRecDepth 100000 in
set_option maxHeartbeats 4000000 in
theorem word_any (s : ByteArray) (w : World) : Calls Tryd.prog 30 #[.string s] w fun e w' => (∃ S, e = .returned (.string S) ∧ lS S = (lS s).take (wl (lS s))) ∧ Below w.heap.size w w' := by
  have hls := lS_len s
  have hdec := fun k (h : k < s.size) => dec_rn s k h
  have hnext := fun (k : Nat) (h : k < s.size) (ty : TypeId) => run_next_any (P := Tryd.prog) w s k ty h
  have hend := fun (k : Nat) (h : ¬ k < s.size) (ty : TypeId) => run_next_end (P := Tryd.prog) w s k ty h
  have hcut := fun k (h : k ≤ s.size) W => run_sCut0 W s k h
  have hlc : ∀ k, lS (s.extract 0 k) = (lS s).take k := fun k => by rw [lS_cut]; rfl
  obtain ⟨l, hl⟩ : ∃ q, lS s = q := ⟨_, rfl⟩
  have HL : Hid (lS s = l) := hl
  simp only [hl] at hls hdec hlc ⊢
  obtain ⟨n, hn⟩ : ∃ q, s.size = q := ⟨_, rfl⟩
  simp only [hn] at hls hdec hnext hend hcut
  clear hl hn
  go_enter Tryd.func30, Tryd.ntmps30
  go_wp2_with fail
  go_loopw [] (fun wr => ∃ k : Nat, k ≤ n ∧ wr = w.iter s k ∧ Hid (wl l = k + wl (l.drop k))) (fun wr => n - wr.iterPos w.heap.size)
  case atStart => exact ⟨0, by omega, rfl, by show wl l = 0 + wl (l.drop 0); rw [List.drop_zero, Nat.zero_add]⟩
  case round =>
    obtain ⟨k, hk, rfl, HI⟩ := hrel
    by_cases hlt : k < n
    · have hnx := hnext k hlt
      rw [hdec k hlt] at hnx
      obtain ⟨g1, g2⟩ := word_rn (l.drop k) (by rw [List.length_drop]; omega)
      rw [lB_drop] at g1 g2
      have hw := wl_step l k (by omega)
      have hcu := hcut k hk
      have hin := fun W => inWord_any (stR (rn (l.drop k))).1 W
      rw [g1] at hin
      clear hdec hnext hend hcut g1
      by_cases hi : inW (lB l k) = true
      · rw [if_pos hi] at hw
        rw [hi] at hin
        rw [g2 hi] at hnx
        have HN : Hid (wl l = k + 1 + wl (l.drop (k + 1))) := by show wl l = _; rw [HI.out, hw]; omega
        clear HI hw hi g2 hcu
        generalize (stR (rn (l.drop k))).1 = v at hnx hin
        go_wp2_with fail
        refine (hin _).mono ?_
        rintro e w' ⟨rfl, rfl⟩
        go_wp2
        go_roundw
        case rel => exact ⟨k + 1, by omega, rfl, HN⟩
        case measure => simp; omega
      · rw [if_neg hi] at hw
        rw [show inW (lB l k) = false by simpa using hi] at hin
        have HP : Hid (lS (s.extract 0 k) = l.take (wl l)) := by show _ = _; rw [hlc, HI.out, hw]; rfl
        clear HI hw hi g2 hlc
        generalize (stR (rn (l.drop k))).1 = v at hnx hin
        generalize k + (stR (rn (l.drop k))).2 = k2 at hnx
        generalize s.extract 0 k = S9 at hcu HP
        go_wp2_with fail
        refine (hin _).mono ?_
        rintro e w' ⟨rfl, rfl⟩
        go_wp2
        go_ret
        exact ⟨⟨_, rfl, HP.out⟩, below_alloc w _⟩
    · obtain rfl : k = n := by omega
      have hnx := hend k (by omega)
      have HP : Hid (lS s = l.take (wl l)) := by
        show lS s = _
        rw [HL.out, HI.out, List.drop_of_length_le (by omega)]
        rw [show wl ([] : List UInt8) = 0 from rfl, Nat.add_zero, ← hls, List.take_length]
      clear hdec hnext hend hcut HI hlc
      go_wp2
      go_ret
      exact ⟨⟨_, rfl, HP.out⟩, below_alloc w _⟩
end Go.Proofs.YtiokdcffpnjkcaaDoor
