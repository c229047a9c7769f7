import Derived.Test.YtpckdkgbeemalaaQBit1
import Derived.Test.YtpckdkgbeemalaaQRfa
import Derived.Test.YtpckdkgbeemalaaQNum
namespace Go.Proofs.Ytpckdkgbeemalaa
open Go.RowKit

/-! assayref01's Crc and Sealed -/
theorem low_bit (y : BitVec 32) : (y.toNat : Int) % 2 = bif y.getLsbD 0 then 1 else 0 := by
  have h : y.getLsbD 0 = decide (y.toNat % 2 = 1) := by
    rw [BitVec.getLsbD, Nat.testBit_zero]
  rw [h]
  rcases Nat.mod_two_eq_zero_or_one y.toNat with h2 | h2
  · simp [h2]; omega
  · simp [h2]; omega
theorem not_ones (n : BitVec 32) : (4294967295 : Int) - (n.toNat : Int) = ((n ^^^ ones).toNat : Int) := by
  have e : n ^^^ ones = ~~~ n := by rw [show ones = BitVec.allOnes 32 by decide, BitVec.xor_allOnes]
  rw [e, BitVec.toNat_not]
  have := n.isLt
  omega
set_option linter.unusedSimpArgs false in
set_option maxHeartbeats 400000 in
theorem refCrc_any (v : Value) (l : List UInt8) (w : World) (hl : l.length ≤ maxLen) (hv : IsB w v l) :
    Calls Try.prog 34 #[v] w fun e w' => e = .returned (.int .u32 ((sumL l).toNat : Nat)) ∧ w' = w := by
  obtain ⟨x, c, rfl⟩ := hv.len
  have hcells := fun k hk => hv.spot k hk
  clear hv
  unfold maxLen at hl
  go_enter Try.func34, Try.ntmps34
  go_wp2
  go_loop [3, 4] (fun n i => ∃ k : Nat, k ≤ l.length ∧ i = .int .i64 k ∧ n = .int .u32 ((crcL ones (l.take k)).toNat : Nat)) (fun _ i => l.length - (intOf i).toNat)
  case atStart => exact ⟨0, Nat.zero_le _, rfl, by simp only [List.take_zero]; rfl⟩
  case round =>
    obtain ⟨k, hk, rfl, rfl⟩ := hrel
    by_cases hlt : k < l.length
    · obtain ⟨b, o, rfl, hb, hc⟩ := hcells k hlt
      clear hcells
      have HS : Hid (crcL ones (l.take (k + 1)) = byt (crcL ones (l.take k)) (l[k]?.getD 0)) := crcL_take_succ ones l k hlt
      generalize crcL ones (l.take k) = n at HS ⊢
      generalize l[k]?.getD 0 = d at hc HS
      have hd := d.toNat_lt
      obtain ⟨m, hm⟩ : ∃ m, n ^^^ BitVec.ofNat 32 d.toNat = m := ⟨_, rfl⟩
      have hx : bits .xor .u32 (n.toNat : Int) (d.toNat : Int) = (m.toNat : Int) := by rw [← hm]; exact xor_byte n d
      have HM : Hid (crcL ones (l.take (k + 1)) = stN 8 m) := by show _ = _; rw [HS.out, byt, hm]
      clear hm HS
      have hk0 : (0 : Int) ≤ (k : Int) := by omega
      have hk1 : (k : Int) < (l.length : Int) := by omega
      go_wp2
      go_loop [3, 5] (fun y i => ∃ j : Nat, j ≤ 8 ∧ i = .int .i64 j ∧ y = .int .u32 ((stN j m).toNat : Nat)) (fun _ i => 8 - (intOf i).toNat)
      case atStart => exact ⟨0, by omega, rfl, rfl⟩
      case round =>
        obtain ⟨j, hj, rfl, rfl⟩ := hrel
        by_cases hj8 : j < 8
        · have HJ : Hid (stN (j + 1) m = st (stN j m)) := stN_succ' j m
          generalize stN j m = y at HJ ⊢
          have hy := y.isLt
          have ha := low_bit y
          have ht : (y.toNat : Int).tmod 2 = (y.toNat : Int) % 2 := Int.tmod_eq_emod_of_nonneg (by omega)
          cases hb0 : y.getLsbD 0
          · rw [hb0] at ha
            simp only [cond_false] at ha
            rw [ha] at ht
            have HZ : Hid ((y.toNat : Int) / (2 : Int) = (((stN (j + 1) m).toNat : Nat) : Int)) := by show _ = _; rw [HJ.out]; exact st_even y hb0
            clear hb0
            go_wp2
            go_round
            case rel => exact ⟨j + 1, by omega, by go_num, by rw [HZ.out]⟩
            case measure => simp [intOf]; omega
          · rw [hb0] at ha
            simp only [cond_true] at ha
            rw [ha] at ht
            have HZ : Hid (bits .xor .u32 ((y.toNat : Int) / (2 : Int)) 3988292384 = (((stN (j + 1) m).toNat : Nat) : Int)) := by show _ = _; rw [HJ.out]; exact st_odd y hb0
            clear hb0
            go_wp2
            go_round
            case rel => exact ⟨j + 1, by omega, by go_num, by rw [HZ.out]⟩
            case measure => simp [intOf]; omega
        · obtain rfl : j = 8 := by omega
          go_wp2
          go_round
          case rel => exact ⟨k + 1, by omega, by go_num, by rw [HM.out]⟩
          case measure => simp [intOf]; omega
    · obtain rfl : k = l.length := by omega
      have hx := not_ones (crcL ones l)
      have hlt2 := (crcL ones l).isLt
      rw [List.take_length]
      have HX : Hid (_ = _) := hx
      clear hx
      go_wp2
      go_ret
      exact ⟨ret_int HX.out, rfl⟩
set_option maxHeartbeats 400000 in
set_option maxRecDepth 100000 in
theorem refSealed1_any (s : Sc) (w : World) :
    Calls Try.prog 35 #[.agg (secA s)] w fun e w' => e = .returned (.agg (secA (sealS s))) ∧ Below w.heap.size w w' := by
  have hR1 : ScR ((w.alloc (.cells (secA s) 44)).alloc (.cells (secA secZ) 44)) w.heap.size s := (ScR.new w s _).kept (below_alloc _ _)
  have hR2 : ScR ((w.alloc (.cells (secA s) 44)).alloc (.cells (secA secZ) 44)) (w.heap.size + 1) secZ := by
    have := ScR.new (w.alloc (.cells (secA s) 44)) secZ 44
    rw [World.size_alloc] at this
    exact this
  have hB : Below w.heap.size w ((w.alloc (.cells (secA s) 44)).alloc (.cells (secA secZ) 44)) := (below_alloc w _).alloc (by simp) _
  go_enter Try.func35, Try.ntmps35
  go_upto_region 1 with fail
  obtain ⟨g2, hg2⟩ : ∃ g, w.heap.size + 1 = g := ⟨_, rfl⟩
  obtain ⟨g1, hg1⟩ : ∃ g, w.heap.size = g := ⟨_, rfl⟩
  have hl2 : w.heap.size ≤ g2 := by omega
  rw [hg2] at hR2
  rw [hg1] at hR1
  simp only [hg2]
  simp only [hg1]
  generalize (w.alloc (.cells (secA s) 44)).alloc (.cells (secA secZ) 44) = X at hB hR1 hR2 ⊢
  clear hg2 hg1
  obtain ⟨q, hq⟩ : ∃ q, (sumL (subL s 0 60)).toNat = q := ⟨_, rfl⟩
  have hqn : q < 4294967296 := by rw [← hq]; exact (sumL (subL s 0 60)).isLt
  have HE : Hid (putI s 60 q 4 = sealS s) := by
    show _ = _
    unfold sealS secSum
    rw [hq]
    unfold putI
    rfl
  have HQ : Hid _ := hq
  clear hq
  refine wp_reliesT [Fx (.agg (secA s)), Fx (.slice (some ⟨g1, 0, none⟩) 60 64), Fx (.int .u32 (q : Int)), Fx (.agg (secA (sealS s)))] (by kernel_rfl) (by kernel_rfl) ?_ ?_ ?_
  · repeat' (first | exact all_nil | apply all_cons)
    all_goals intro v y y' hv hb
    all_goals first | exact Fx_mono _ _ _ _ hv hb
  · refine ⟨?_, ?_, ?_, ?_, trivial⟩
    all_goals
      intro ρ x hp ρc ρg ρf ho hd
      have o1 : ρ (.tmp 1) = .pointer (some ⟨g1, 0, none⟩) := ho 1 rfl
      clear ho
      obtain ⟨r1, q1⟩ := hR1.kept hp
      simp only [depsR, depR, slotR, Fx, List.getElem?_cons_succ, List.getElem?_cons_zero, Region.binds, forall_const] at hd
      simp only [guardR]
      go_split_ands
    · go_simp
    · go_simp
    · go_simp
      have hi := sec_isB (w := x) (n := g1) (m := 60) (s := s) 64 r1 q1 (by omega)
      rw [subL_length] at hi
      refine (refCrc_any _ (subL s 0 60) _ (by rw [subL_length]; unfold maxLen; omega) hi).mono ?_
      rintro e x' ⟨rfl, hw⟩
      subst hw
      exact ⟨_, rfl, by rw [HQ.out]; rfl, Below.refl _ _⟩
    · go_simp
      have hp2 := rputU32_any s 60 (q : Int) x (by omega) (by omega) (by omega) (by omega)
      rw [Int.toNat_natCast, HE.out] at hp2
      refine hp2.mono ?_
      rintro e x' ⟨rfl, hb⟩
      exact ⟨_, rfl, rfl, hb⟩
  · intro vs x1 hp hw
    simp only [owed, Fx] at hw
    obtain ⟨e0, e1, e2, e3, -⟩ := hw
    simp only [List.length_cons, List.length_nil, List.take_succ_cons, List.take_zero, List.drop_succ_cons, List.drop_zero, asg, List.cons_append, List.nil_append, e0, e1, e2, e3]
    clear e0 e1 e2 e3
    have h2 := hR2.kept hp
    replace hB := hB.trans (hp.mono hB.size)
    have HR9 : Hid (ScR (x1.setRow g2 (secA (sealS s))) g2 (sealS s)) := ⟨rowOk_setRow_same _ _ _ h2.1 (secA_size _), rowAt_setRow_same _ _ _ h2.1⟩
    have HB : Hid _ := below_row hB hl2 (secA (sealS s))
    obtain ⟨r2, q2⟩ := h2
    clear hB hp hR1 hR2
    go_wp2
    exact bodyPost_sec 2 g2 rfl rfl rfl HR9.out.1 ⟨by rw [HR9.out.2], HB.out⟩
end Go.Proofs.Ytpckdkgbeemalaa
