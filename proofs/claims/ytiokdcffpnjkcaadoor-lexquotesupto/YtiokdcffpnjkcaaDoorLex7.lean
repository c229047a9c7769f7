
import Derived.Test.YtiokdcffpnjkcaaDoorLex6
namespace Go.Proofs.YtiokdcffpnjkcaaDoor
open Go.RowKit

/-! assayref14.text -/
theorem lB_drop (l : List UInt8) (k : Nat) : lB (l.drop k) 0 = lB l k := by unfold lB; rw [List.getElem?_drop]; rfl
theorem escAt_lt (b : UInt8) : ∀ n i j, escAt b n i = some j → i ≤ j ∧ j < i + n
  | 0, _, _, h => by cases h
  | n + 1, i, j, h => by
    rw [escAt] at h
    split at h
    · cases h; omega
    · have := escAt_lt b n (i + 1) j h; omega
theorem escU_range (l : List UInt8) : (escU l).2 ≤ l.length ∧ (escU l).1.length ≤ (escU l).2 := by
  unfold escU
  split
  · simp
  · rename_i h
    split
    · simp
    · rename_i v _
      split
      · simp
      · have := enc_len v
        simp only
        omega
theorem esc_range (l : List UInt8) : (escS l).2 ≤ l.length ∧ (escS l).1.length ≤ (escS l).2 := by
  unfold escS
  split
  · split
    · simp; omega
    · exact escU_range l
  · exact escU_range l
def TxP (r : List UInt8 × Nat) (w : World) (e : Ending) (w' : World) : Prop := (∃ S, e = .returned (.tuple #[.string S, .int .i64 ((r.2 : Nat) : Int)]) ∧ lS S = r.1) ∧ Below w.heap.size w w'
set_option linter.unusedSimpArgs false in
set_option maxRecDepth 100000 in
set_option maxHeartbeats 8000000 in
theorem refText_any (s : ByteArray) (w : World) (h47 : s.size ≤ 140737488355328) : Calls Tryd.prog 33 #[.string s] w fun e w' => TxP (txt (lS s) (lS s).length 1 []) w e w' := by
  have hls := lS_len s
  have hrun := fun k (hk : k ≤ s.size) W => refRune_any (s.extract k s.size) W (by rw [← lS_len, lS_cut, List.length_take, List.length_drop]; omega)
  have hesc := fun k (hk : k ≤ s.size) W => refEscape_any (s.extract k s.size) W (by rw [← lS_len, lS_cut, List.length_take, List.length_drop]; omega)
  simp only [lS_cut] at hrun hesc
  have hpc := fun k n => lS_cut s k (k + n)
  obtain ⟨l, hl⟩ : ∃ q, lS s = q := ⟨_, rfl⟩
  rw [hl] at hls ⊢
  simp only [hl] at hrun hesc hpc
  obtain ⟨p, hp⟩ : ∃ q, s.size = q := ⟨_, rfl⟩
  rw [hp] at hls h47
  simp only [hp] at hrun hesc
  rw [hls]
  obtain ⟨RT, hRT⟩ : ∃ q, txt l p 1 [] = q := ⟨_, rfl⟩
  have H0 : Hid (∃ f, p ≤ f + 1 ∧ txt l f 1 (lS ⟨#[]⟩) = RT) := ⟨p, by omega, hRT⟩
  rw [hRT]
  have HNO : Hid (∀ w', RT = ([], 0) → Below w.heap.size w w' → TxP RT w (.returned (.tuple #[.string ⟨#[]⟩, .int .i64 0])) w') := fun w' h hb => ⟨⟨_, by rw [h]; rfl, by rw [h]; rfl⟩, hb⟩
  clear hRT
  go_enter Tryd.func33, Tryd.ntmps33
  go_wp2_with fail
  go_loopw [4, 5] (fun ov iv wr => ∃ (k : Nat) (S : ByteArray), (1 ≤ k ∧ k ≤ p + 1) ∧ ov = .string S ∧ iv = .int .i64 k ∧ S.size ≤ k ∧ Hid (∃ f, p ≤ f + k ∧ txt l f k (lS S) = RT) ∧ Below w.heap.size w wr) (fun _ iv _ => p + 1 - (intOf iv).toNat)
  case atStart => exact ⟨1, ⟨#[]⟩, by omega, rfl, rfl, by show 0 ≤ 1; omega, H0, Below.refl _ _⟩
  case round =>
    clear H0
    obtain ⟨k, S, ⟨hk1, hk2⟩, rfl, rfl, hSz, HI, hB⟩ := hrel
    obtain ⟨f, hf, hF⟩ := HI.out
    clear HI
    by_cases hlt : k < p
    · have i0 : (0 : Int) ≤ (k : Int) := by omega
      have i1 : (k : Int) < (p : Int) := by omega
      obtain ⟨f', rfl⟩ : ∃ f', f = f' + 1 := ⟨f - 1, by omega⟩
      rw [txt, if_pos (by omega)] at hF
      have htk : (l.drop k).take (p - k) = l.drop k := List.take_of_length_le (by rw [List.length_drop]; omega)
      have hcut : ∀ W, (sCut1 (.string s) (.int .i64 (k : Int))).run Tryd.prog W = .ok (.value (.string (s.extract k p))) W := fun W => by
        have := run_sCut1 W s k (by omega)
        rw [hp] at this; exact this
      have hPd : piece (l.drop k) = (if lB l k = 92 then escS (l.drop k) else if (rn (l.drop k)).1 < 32 then ((l.drop k).take (rn (l.drop k)).2, 0) else ((l.drop k).take (rn (l.drop k)).2, (rn (l.drop k)).2)) := by unfold piece; rw [lB_drop]
      obtain ⟨b, hb⟩ : ∃ q, lB l k = q := ⟨_, rfl⟩
      have hbk : ∀ W, (sAt (.string s) (.int .i64 (k : Int))).run Tryd.prog W = .ok (.value (.int .u8 (b.toNat : Int))) W := fun W => by
        have := run_sAt W s k (by rw [hp]; omega)
        rw [hl, hb] at this; exact this
      rw [hb] at hF hPd
      by_cases h34 : b = 34
      · have f0 : ((b.toNat : Int) == 34) = true := by rw [h34]; rfl
        rw [if_pos h34] at hF
        have HP : Hid (TxP RT w (.returned (.tuple #[.string S, .int .i64 ((k : Int) + 1)])) wr) := ⟨⟨S, by rw [← hF]; rfl, by rw [← hF]⟩, hB⟩
        clear hF hPd hrun hesc hpc hcut htk h34
        go_wp2
        go_ret2
        exact HP.out
      · have f0 : ((b.toNat : Int) == 34) = false := beq_eq_false_iff_ne.2 (fun e => h34 (UInt8.toNat_inj.1 (by show b.toNat = 34; omega)))
        rw [if_neg h34] at hF
        by_cases h92 : b = 92
        · have f1 : ((b.toNat : Int) == 92) = true := by rw [h92]; rfl
          rw [if_pos h92] at hPd
          have he := hesc k (by omega)
          simp only [htk] at he
          obtain ⟨r1, r2⟩ := esc_range (l.drop k)
          rw [List.length_drop, hls] at r1
          rw [hPd] at hF
          obtain ⟨n, hn⟩ : ∃ q, (escS (l.drop k)).2 = q := ⟨_, rfl⟩
          obtain ⟨PL, hPL⟩ : ∃ q, (escS (l.drop k)).1 = q := ⟨_, rfl⟩
          rw [hn, hPL] at hF r2
          rw [hn] at r1
          simp only [hn, hPL] at he
          generalize s.extract k p = SK at he hcut
          have HF0 : Hid _ := hF
          clear hPd hrun hesc hpc htk hn hPL hF h34 h92
          go_wp2_with fail
          refine (he _).mono ?_
          rintro e w2 ⟨⟨Q, rfl, hQ⟩, hb9⟩
          have hB2 := hB.trans (hb9.mono hB.size)
          have hQz : Q.size ≤ n := by rw [← lS_len, hQ]; exact r2
          have hF := HF0.out
          rw [← hQ] at hF
          clear he hcut hB hb9 HF0 hQ hbk
          by_cases hn0 : n = 0
          · have f2 : ((n : Int) == 0) = true := beq_iff_eq.2 (by omega)
            rw [if_pos hn0] at hF
            have HP : Hid _ := HNO.out w2 hF.symm hB2
            clear hF hB2 hn0
            go_wp2
            go_ret2
            exact HP.out
          · have f2 : ((n : Int) == 0) = false := beq_eq_false_iff_ne.2 (by omega)
            rw [if_neg hn0] at hF
            have HF : Hid _ := hF
            clear hF
            have hns : ¬ 9223372036854775807 < S.size + Q.size := by omega
            have HN : Hid (∃ f, p ≤ f + (k + n) ∧ txt l f (k + n) (lS (S ++ Q)) = RT) := ⟨f', by omega, by rw [lS_app]; exact HF.out⟩
            have HSZ : Hid ((S ++ Q).size ≤ k + n) := by show _ ≤ _; rw [ByteArray.size_append]; omega
            have hkn : IntKind.i64.wrap ((k : Int) + (n : Int)) = (k : Int) + (n : Int) := by rw [IntKind.wrap_i64]; omega
            clear HF
            go_wp2
            go_roundw
            case rel => first | exact ⟨k + n, S ++ Q, by omega, rfl, by go_num, HSZ.out, HN, hB2⟩ | ((repeat apply Exists.intro); refine ⟨⟨k + n, S ++ Q, by omega, rfl, ?_, HSZ.out, HN, hB2⟩, rfl⟩; go_num)
            case measure => simp [intOf]; omega
        · have f1 : ((b.toNat : Int) == 92) = false := beq_eq_false_iff_ne.2 (fun e => h92 (UInt8.toNat_inj.1 (by show b.toNat = 92; omega)))
          rw [if_neg h92] at hPd
          have hr := hrun k (by omega)
          simp only [htk] at hr
          unfold rnP at hr
          obtain ⟨r1, r2, r3⟩ := rn_range (l.drop k)
          rw [List.length_drop, hls] at r2
          obtain ⟨v, hv⟩ : ∃ q, (rn (l.drop k)).1 = q := ⟨_, rfl⟩
          obtain ⟨n, hn⟩ : ∃ q, (rn (l.drop k)).2 = q := ⟨_, rfl⟩
          rw [hv] at r1 hPd
          rw [hn] at r2 r3 hPd
          simp only [hv, hn] at hr
          have hcut2 : ∀ W, (sCut (.string s) (.int .i64 (k : Int)) (.int .i64 ((k : Int) + (n : Int)))).run Tryd.prog W = .ok (.value (.string (s.extract k (k + n)))) W := fun W => by
            have := run_sCut W s k (k + n) (by omega) (by rw [hp]; omega)
            rw [← this]; rfl
          have hQ : lS (s.extract k (k + n)) = (l.drop k).take n := by rw [hpc, show k + n - k = n by omega]
          have hQz : (s.extract k (k + n)).size ≤ n := by rw [← lS_len, hQ, List.length_take]; omega
          rw [hPd, ← hQ] at hF
          have hkn0 : IntKind.i64.wrap ((k : Int) + (n : Int)) = (k : Int) + (n : Int) := by rw [IntKind.wrap_i64]; omega
          generalize s.extract k p = SK at hr hcut
          generalize s.extract k (k + n) = Q at hcut2 hQz hF
          have HF0 : Hid _ := hF
          clear hPd hrun hesc hpc htk hv hn hQ hF h34 h92
          go_wp2_with fail
          refine (hr _).mono ?_
          rintro e w2 ⟨rfl, hb9⟩
          have hB2 := hB.trans (hb9.mono hB.size)
          have hF := HF0.out
          clear hr hcut hB hb9 HF0 hbk
          by_cases h32 : v < 32
          · have f3 : (v : Int) < 32 := by omega
            rw [if_pos h32, if_pos rfl] at hF
            have HP : Hid _ := HNO.out w2 hF.symm hB2
            clear hF hB2 h32
            go_wp2
            go_ret2
            exact HP.out
          · have f3 : ¬ (v : Int) < 32 := by omega
            rw [if_neg h32] at hF
            by_cases hn0 : n = 0
            · have f2 : ((n : Int) == 0) = true := beq_iff_eq.2 (by omega)
              rw [if_pos hn0] at hF
              have HP : Hid _ := HNO.out w2 hF.symm hB2
              clear hF hB2 hn0 h32
              go_wp2
              go_ret2
              exact HP.out
            · have f2 : ((n : Int) == 0) = false := beq_eq_false_iff_ne.2 (by omega)
              rw [if_neg hn0] at hF
              have HF : Hid _ := hF
              clear hF h32 hkn0
              have hns : ¬ 9223372036854775807 < S.size + Q.size := by omega
              have HN : Hid (∃ f, p ≤ f + (k + n) ∧ txt l f (k + n) (lS (S ++ Q)) = RT) := ⟨f', by omega, by rw [lS_app]; exact HF.out⟩
              have HSZ : Hid ((S ++ Q).size ≤ k + n) := by show _ ≤ _; rw [ByteArray.size_append]; omega
              have hkn : IntKind.i64.wrap ((k : Int) + (n : Int)) = (k : Int) + (n : Int) := by rw [IntKind.wrap_i64]; omega
              clear HF
              go_wp2
              go_roundw
              case rel => first | exact ⟨k + n, S ++ Q, by omega, rfl, by go_num, HSZ.out, HN, hB2⟩ | ((repeat apply Exists.intro); refine ⟨⟨k + n, S ++ Q, by omega, rfl, ?_, HSZ.out, HN, hB2⟩, rfl⟩; go_num)
              case measure => simp [intOf]; omega
    · have i1 : ¬ (k : Int) < (p : Int) := by omega
      have hF2 : RT = ([], 0) := by
        rw [← hF]
        cases f with
        | zero => rfl
        | succ f => rw [txt, if_neg (by omega)]
      have HP : Hid _ := HNO.out wr hF2 hB
      clear hF hF2 hrun hesc hpc
      go_wp2
      go_ret2
      exact HP.out
end Go.Proofs.YtiokdcffpnjkcaaDoor
