import Derived.Test.YtiokdcffpnjkcaaDoorQLex3
namespace Go.Proofs.YtiokdcffpnjkcaaDoor
open Go.RowKit

/-! assayref14.Quote -/
theorem enc_len (v : Nat) : (enc v).length ≤ 4 := by
  unfold enc
  (repeat' split) <;> simp
theorem quo_len (v : Nat) : (quo v).length ≤ 6 := by
  unfold quo
  have := enc_len v
  (repeat' split) <;> first | (simp; done) | omega
theorem rnN_range (l : List UInt8) (n v0 : Nat) : (rnN l n v0).1 ≤ 1114111 ∧ ((rnN l n v0).2 ≠ 0 → (rnN l n v0).2 = n ∧ n ≤ l.length) := by
  unfold rnN
  split
  · simp
  · split
    · simp
    · split
      · rename_i h
        unfold okR at h
        simp only [decide_eq_true_eq] at h
        exact ⟨h.2.1, fun _ => ⟨rfl, by omega⟩⟩
      · simp
theorem rn_range (l : List UInt8) : (rn l).1 ≤ 1114111 ∧ (rn l).2 ≤ l.length ∧ (rn l).2 ≤ 4 := by
  unfold rn
  split
  · simp
  · split
    · simp only; omega
    · split
      · obtain ⟨h1, h2⟩ := rnN_range l 2 ((lB l 0).toNat - 192)
        by_cases h : (rnN l 2 ((lB l 0).toNat - 192)).2 = 0
        · omega
        · have := h2 h; omega
      · split
        · obtain ⟨h1, h2⟩ := rnN_range l 3 ((lB l 0).toNat - 224)
          by_cases h : (rnN l 3 ((lB l 0).toNat - 224)).2 = 0
          · omega
          · have := h2 h; omega
        · split
          · obtain ⟨h1, h2⟩ := rnN_range l 4 ((lB l 0).toNat - 240)
            by_cases h : (rnN l 4 ((lB l 0).toNat - 240)).2 = 0
            · omega
            · have := h2 h; omega
          · simp
def QuP (l : List UInt8) (w : World) (e : Ending) (w' : World) : Prop := e = .returned (.tuple #[.string ⟨(quS l).toArray⟩, .int .i64 (quE l)]) ∧ Below w.heap.size w w'
set_option linter.unusedSimpArgs false in
set_option maxRecDepth 100000 in
set_option maxHeartbeats 4000000 in
theorem refQuote_any (s : ByteArray) (w : World) (h47 : s.size ≤ 140737488355328) : Calls Tryd.prog 11 #[.string s] w fun e w' => QuP (lS s) w e w' := by
  have hls := lS_len s
  have hrun := fun k (hk : k ≤ s.size) W => refRune_any (s.extract k s.size) W (by rw [← lS_len, lS_cut, List.length_take, List.length_drop]; omega)
  simp only [lS_cut] at hrun
  obtain ⟨l, hl⟩ : ∃ q, lS s = q := ⟨_, rfl⟩
  rw [hl] at hls ⊢
  simp only [hl] at hrun
  obtain ⟨p, hp⟩ : ∃ q, s.size = q := ⟨_, rfl⟩
  rw [hp] at hls h47
  simp only [hp] at hrun
  obtain ⟨RQ, hRQ⟩ : ∃ q, quA l = q := ⟨_, rfl⟩
  have HYES : Hid (∀ S w', RQ = some (lS S) → Below w.heap.size w w' → QuP l w (.returned (.tuple #[.string S, .int .i64 0])) w') := fun S w' h hb => ⟨by
    unfold quS quE
    rw [hRQ, h]
    simp only [Option.getD_some, Option.isNone_some]
    rw [← lS_eq (rfl : lS S = lS S)]; rfl, hb⟩
  have HNO : Hid (∀ w', RQ = none → Below w.heap.size w w' → QuP l w (.returned (.tuple #[.string ⟨#[]⟩, .int .i64 30])) w') := fun w' h hb => ⟨by
    unfold quS quE
    rw [hRQ, h]; rfl, hb⟩
  have H0 : Hid (∃ f, p + 1 ≤ f + 0 ∧ quF l f 0 (lS ⟨#[34]⟩) = RQ) := ⟨p + 1, by omega, by rw [← hRQ]; unfold quA; rw [hls]; rfl⟩
  clear hRQ
  obtain ⟨S0, hS0⟩ : ∃ q, ByteArray.mk #[34] = q := ⟨_, rfl⟩
  have hz0 : S0.size = 1 := by rw [← hS0]; rfl
  have HL0 : Hid (lS S0 = [34]) := by show _ = _; rw [← hS0]; rfl
  rw [hS0] at H0
  have HS0 : Hid (ByteArray.mk #[34] = S0) := hS0
  clear hS0
  go_enter Tryd.func11, Tryd.ntmps11
  go_upto_region 2 with fail
  rw [HS0.out]
  go_wp2_with fail
  go_loopw [4, 5] (fun ov iv wr => ∃ (k : Nat) (S : ByteArray), k ≤ p ∧ ov = .string S ∧ iv = .int .i64 k ∧ S.size ≤ 1 + 6 * k ∧ Hid (∃ f, p + 1 ≤ f + k ∧ quF l f k (lS S) = RQ) ∧ Below w.heap.size w wr) (fun _ iv _ => p - (intOf iv).toNat)
  case atStart => exact ⟨0, S0, by omega, rfl, rfl, by omega, H0, Below.refl _ _⟩
  case round =>
    clear H0
    obtain ⟨k, S, hk, rfl, rfl, hSz, HI, hB⟩ := hrel
    obtain ⟨f, hf, hF⟩ := HI.out
    clear HI
    by_cases hlt : k < p
    · have i0 : (0 : Int) ≤ (k : Int) := by omega
      have i1 : (k : Int) < (p : Int) := by omega
      obtain ⟨f', rfl⟩ : ∃ f', f = f' + 1 := ⟨f - 1, by omega⟩
      rw [quF, if_pos (by omega)] at hF
      have hr := hrun k (by omega)
      have htk : (l.drop k).take (p - k) = l.drop k := List.take_of_length_le (by rw [List.length_drop]; omega)
      simp only [htk] at hr
      clear htk
      unfold rnP at hr
      obtain ⟨r1, r2, r3⟩ := rn_range (l.drop k)
      rw [List.length_drop, hls] at r2
      have hcut : ∀ W, (sCut1 (.string s) (.int .i64 (k : Int))).run Tryd.prog W = .ok (.value (.string (s.extract k p))) W := fun W => by
        have := run_sCut1 W s k (by omega)
        rw [hp] at this; exact this
      obtain ⟨v, hv⟩ : ∃ q, (rn (l.drop k)).1 = q := ⟨_, rfl⟩
      obtain ⟨n, hn⟩ : ∃ q, (rn (l.drop k)).2 = q := ⟨_, rfl⟩
      rw [hv] at hF r1
      rw [hn] at hF r2 r3
      simp only [hv, hn] at hr
      generalize s.extract k p = SK at hr hcut
      clear hv hn hrun
      go_wp2_with fail
      refine (hr _).mono ?_
      rintro e w1 ⟨rfl, hb⟩
      have hB1 := hB.trans (hb.mono hB.size)
      clear hr hcut hB hb
      by_cases hn0 : n = 0
      · have f0 : ((n : Int) == 0) = true := beq_iff_eq.2 (by omega)
        rw [if_pos hn0] at hF
        have HP : Hid _ := HNO.out w1 hF.symm hB1
        clear hF hB1 hn0
        go_wp2
        go_ret2
        exact HP.out
      · have f0 : ((n : Int) == 0) = false := beq_eq_false_iff_ne.2 (by omega)
        rw [if_neg hn0] at hF
        have hq := refQuoted_any v r1 w1
        have hql := quo_len v
        have HF : Hid _ := hF
        clear hF
        go_wp2_with fail
        refine hq.mono ?_
        rintro e w2 ⟨⟨Q, rfl, hQ⟩, hb⟩
        have hB2 := hB1.trans (hb.mono hB1.size)
        have hQz : Q.size ≤ 6 := by rw [← lS_len, hQ]; exact hql
        have hns : ¬ 9223372036854775807 < S.size + Q.size := by omega
        have HN : Hid (∃ f, p + 1 ≤ f + (k + n) ∧ quF l f (k + n) (lS (S ++ Q)) = RQ) := ⟨f', by omega, by rw [lS_app, hQ]; exact HF.out⟩
        have HSZ : Hid ((S ++ Q).size ≤ 1 + 6 * (k + n)) := by show _ ≤ _; rw [ByteArray.size_append]; omega
        have hkn : IntKind.i64.wrap ((k : Int) + (n : Int)) = (k : Int) + (n : Int) := by rw [IntKind.wrap_i64]; omega
        clear hq hb hB1 HF hQ hql
        go_wp2
        go_roundw
        case rel => first | exact ⟨k + n, S ++ Q, by omega, rfl, by go_num, HSZ.out, HN, hB2⟩ | ((repeat apply Exists.intro); refine ⟨⟨k + n, S ++ Q, by omega, rfl, ?_, HSZ.out, HN, hB2⟩, rfl⟩; go_num)
        case measure => simp [intOf]; omega
    · obtain rfl : k = p := by omega
      have hlt' : ¬ (k : Int) < (k : Int) := by omega
      obtain ⟨f', rfl⟩ : ∃ f', f = f' + 1 := ⟨f - 1, by omega⟩
      rw [quF, if_neg (by omega)] at hF
      have hns : ¬ 9223372036854775807 < S.size + S0.size := by omega
      have HP : Hid _ := HYES.out (S ++ S0) wr (by rw [lS_app, HL0.out]; exact hF.symm) hB
      clear hF hrun
      have hlit : ByteArray.mk #[34] = S0 := HS0.out
      go_upto_region 9 with fail
      rw [hlit]
      go_wp2
      go_ret2
      exact HP.out
end Go.Proofs.YtiokdcffpnjkcaaDoor
