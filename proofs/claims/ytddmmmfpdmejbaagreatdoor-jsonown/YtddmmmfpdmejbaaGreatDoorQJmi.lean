import Derived.Test.YtddmmmfpdmejbaaGreatDoorQJma
import Derived.Test.YtddmmmfpdmejbaaGreatDoorQJpu
import Derived.Test.YtddmmmfpdmejbaaGreatDoorQJok
namespace Go.Proofs.YtddmmmfpdmejbaaGreatDoor
open Go.RowKit

/-! How big what is read may be -/
theorem enc_le4 (v : Nat) : (enc v).length ≤ 4 := by
  unfold enc
  (repeat' split) <;> simp
theorem esc_len15 (x : List UInt8) (h : (escS x).2 ≠ 0) : (escS x).1.length ≤ 4 * (escS x).2 := by
  have hU : escS x = escU x → (escS x).1.length ≤ 4 * (escS x).2 := fun e => by
    rw [e] at h ⊢
    unfold escU at h ⊢
    split at h
    · exact absurd rfl h
    · rename_i h1
      rw [if_neg h1]
      cases hq : hx x 4 with
      | none => rw [hq] at h; exact absurd rfl h
      | some v =>
        simp only [hq] at h ⊢
        split at h
        · exact absurd rfl h
        · rename_i h2
          rw [if_neg h2]
          have := enc_le4 v
          simp only
          omega
  by_cases h1 : 1 < x.length
  · cases he : escAt (lB x 1) 8 0 with
    | none => exact hU (by unfold escS; rw [if_pos h1, he])
    | some i =>
      have e : escS x = ([lB escMeans i], 2) := by unfold escS; rw [if_pos h1, he]
      rw [e]
      simp
  · exact hU (by unfold escS; rw [if_neg h1])
theorem piece_len15 (x : List UInt8) (h : (piece x).2 ≠ 0) : (piece x).1.length ≤ 4 * (piece x).2 := by
  unfold piece at h ⊢
  split at h
  · rename_i h1; rw [if_pos h1]; exact esc_len15 x h
  · rename_i h1
    rw [if_neg h1]
    split at h
    · exact absurd rfl h
    · rename_i h2
      rw [if_neg h2]
      simp only [List.length_take]
      omega
theorem txt_len15 (l : List UInt8) : ∀ f k out, (txt l f k out).2 ≠ 0 → (txt l f k out).1.length + 4 * k ≤ out.length + 4 * l.length
  | 0, _, _, h => absurd rfl h
  | f + 1, k, out, h => by
    rw [txt] at h ⊢
    split at h
    · rename_i h1
      rw [if_pos h1]
      split at h
      · rename_i h2; rw [if_pos h2]; simp only; omega
      · rename_i h2
        rw [if_neg h2]
        split at h
        · exact absurd rfl h
        · rename_i h3
          rw [if_neg h3]
          have h4 := txt_len15 l f _ _ h
          have h5 := piece_len15 (l.drop k) h3
          rw [List.length_append] at h4
          omega
    · exact absurd rfl h
theorem word_len15 (x : List UInt8) (n : Nat) : (wordTk x n).1.text = [] := by
  unfold wordTk
  (repeat' split) <;> rfl
theorem one_len15 (l : List UInt8) (h : (oneTk l).2 ≠ 0) : (oneTk l).1.text.length ≤ 4 * l.length := by
  unfold oneTk at h ⊢
  cases hs : sgnAt (lB l 0) 6 0 with
  | some i => simp
  | none =>
    simp only [hs] at h ⊢
    split at h
    · rename_i h1
      rw [if_pos h1]
      have := txt_len15 l l.length 1 [] h
      simp only [List.length_nil] at this
      show (txt l l.length 1 []).1.length ≤ _
      omega
    · rename_i h1
      rw [if_neg h1, word_len15]
      simp
theorem vd_len15 : ∀ (D : TD), VD D → ∀ (k : Nat) (t : Tk), t ∈ tks k D → t.text.length ≤ 4 * (lay0 D).length
  | [], _, _, _, h => by cases h
  | (b, z, t) :: D, hV, k, x, h => by
    obtain ⟨⟨h1, h2⟩, -, -, h3⟩ := hV
    rw [tks] at h
    rcases List.mem_cons.1 h with rfl | h
    · have := one_len15 (b ++ (z ++ lay0 D)) (by rw [h1]; simp only; omega)
      rw [h1] at this
      exact this
    · have := vd_len15 D h3 _ x h
      rw [lay0]
      simp only [List.length_append]
      omega
theorem cut_len15 (l : List UInt8) (h : cutE l = 0) (i : Nat) : (tkP (cutL l) i).text.length ≤ 16384 := by
  unfold cutE at h
  split at h
  · cases h
  · rename_i h4
    cases hc : cutA l with
    | mk o p =>
      cases o with
      | none => rw [hc] at h; simp at h
      | some TS =>
        have e : cutL l = TS := by unfold cutL; rw [if_neg h4, hc]; rfl
        obtain ⟨z, D, -, hl, hV, hT⟩ := cut_parts l TS p hc
        rw [e]
        unfold tkP
        cases hx : TS[i]? with
        | none => simp [tkZ]
        | some t =>
          rw [hT] at hx
          have := vd_len15 D hV _ t (List.mem_of_getElem? hx)
          have h9 : l.length = z.length + (lay0 D).length := by rw [hl, List.length_append]
          show t.text.length ≤ _
          omega
theorem szL_app15 : ∀ a b : List Nd, szL (a ++ b) = szL a + szL b
  | [], b => by simp [szL]
  | x :: a, b => by rw [List.cons_append, szL, szL, szL_app15 a b]; omega
def szK (ks : List (List UInt8)) : Nat := (ks.map (fun t => t.length + 16)).sum
theorem szK_snoc (ks : List (List UInt8)) (k : List UInt8) : szK (ks ++ [k]) = szK ks + (k.length + 16) := by simp [szK]
/-- How big, by what was asked for. -/
def SzM (C : Nat) (m : Md) (s t : Ps) (d : Nd) : Prop := match m with
  | none => szN d + s.i * C ≤ t.i * C
  | (some (.inl acc)) => szN d + s.i * C ≤ szL acc + 80 + t.i * C
  | (some (.inr (ks, vs))) => szN d + s.i * C ≤ szK ks + szL vs + 80 + t.i * C
theorem szK0 : szK [] = 0 := rfl
theorem need_i15 (ts : List Tk) (en k : Int) (s : Ps) : s.i ≤ (needP ts en k s).i := by
  unfold needP
  cases isP ts k s with
  | true => simp
  | false => simp
set_option linter.unusedSimpArgs false in
theorem prs_sz (ts : List Tk) (en : Int) (C : Nat) (hC : 96 ≤ C) (hts : ∀ i, (tkP ts i).text.length + 96 ≤ C) : ∀ (f : Nat) (m : Md) (s : Ps), (prsF ts en f m s).2.e = 0 → 2 * (ts.length - s.i) + (match m with | none => 1 | _ => 2) ≤ f → okP ts m s → SzM C m s (prsF ts en f m s).2 (prsF ts en f m s).1
  | 0, none, s => fun _ h _ => by simp at h
  | 0, (some (.inl _)), s => fun _ h _ => by simp at h
  | 0, (some (.inr (_, _))), s => fun _ h _ => by simp at h
  | f + 1, none, s => fun he hf h => by
    have he0 := prs_e0 he
    obtain ⟨h1, h2, -⟩ := h
    rw [prsF, if_neg (fun h => h he0)] at he ⊢
    have leaf : ∀ k n t, t.length + 96 ≤ C → SzM C none s (advP s) (ndK k n t) := fun k n t ht => by
      show szN (ndK k n t) + s.i * C ≤ (s.i + 1) * C
      rw [Nat.add_mul, Nat.one_mul, ndK, szN_mk]
      simp only [List.map_nil, List.sum_nil, szL]
      omega
    have l0 : ([] : List UInt8).length + 96 ≤ C := by simpa using hC
    cases h7 : isP ts 7 s with
    | true => exact leaf _ _ _ l0
    | false =>
      cases h8 : isP ts 8 s with
      | true => exact leaf _ _ _ l0
      | false =>
        cases h9 : isP ts 9 s with
        | true => exact leaf _ _ _ l0
        | false =>
          cases h10 : isP ts 10 s with
          | true => exact leaf _ _ _ l0
          | false =>
            cases h11 : isP ts 11 s with
            | true => exact leaf _ _ _ (hts s.i)
            | false =>
              simp only [h7, h8, h9, h10, h11, cond_false] at he
              simp only [cond_false]
              cases h3 : isP ts 3 s with
              | true =>
                have hi := (isP_spec h3).2.1
                simp only [h3, cond_true] at he
                simp only [cond_true]
                unfold lstB at he ⊢
                cases h4 : isP ts 4 (opnP ts (advP s)) with
                | true =>
                  simp only [cond_true]
                  show szN _ + s.i * C ≤ (opnP ts (advP s)).i.succ * C
                  rw [opnP_i, advP_i, Nat.succ_mul, Nat.succ_mul, szN_mk]
                  simp only [List.map_nil, List.sum_nil, szL, List.length_nil]
                  omega
                | false =>
                  simp only [h4, cond_false] at he
                  simp only [cond_false]
                  have := prs_sz ts en C hC hts f ((some (.inl []))) (opnP ts (advP s)) he (by simp at hf ⊢; omega) ⟨by simp; omega, by simp; omega, by simp⟩
                  simp only [SzM, opnP_i, advP_i, Nat.succ_mul, szL] at this
                  show szN _ + s.i * C ≤ _ * C
                  omega
              | false =>
                cases h0 : isP ts 1 s with
                | true =>
                  have hi := (isP_spec h0).2.1
                  simp only [h3, h0, cond_true, cond_false] at he
                  simp only [cond_true, cond_false]
                  unfold objB at he ⊢
                  cases h4 : isP ts 2 (opnP ts (advP s)) with
                  | true =>
                    simp only [cond_true]
                    show szN _ + s.i * C ≤ (opnP ts (advP s)).i.succ * C
                    rw [opnP_i, advP_i, Nat.succ_mul, Nat.succ_mul, szN_mk]
                    simp only [List.map_nil, List.sum_nil, szL, List.length_nil]
                    omega
                  | false =>
                    simp only [h4, cond_false] at he
                    simp only [cond_false]
                    have := prs_sz ts en C hC hts f ((some (.inr ([], [])))) (opnP ts (advP s)) he (by simp at hf ⊢; omega) ⟨by simp; omega, by simp; omega, by simp⟩
                    simp only [SzM, opnP_i, advP_i, Nat.succ_mul, szL, szK0] at this
                    show szN _ + s.i * C ≤ _ * C
                    omega
                | false =>
                  simp only [h3, h0, cond_false] at he
                  exact absurd he (fail_0 (by decide))
  | f + 1, (some (.inl acc)), s => fun he hf h => by
    have he0 := prs_e0 he
    obtain ⟨h1, h2, h3⟩ := h
    simp only at h3 hf
    obtain ⟨a, b, c⟩ := prsF_ok ts en f none s (by simp; omega) ⟨h1, h2, trivial⟩
    simp only at c
    have hV := fun e9 => prs_sz ts en C hC hts f none s e9 (by simp; omega) ⟨h1, h2, trivial⟩
    rw [prsF] at he ⊢
    unfold lstE at he ⊢
    cases hc : isP ts 6 (prsF ts en f none s).2 with
    | true =>
      have h7 := (isP_spec hc).2.1
      have g1 := hV (isP_spec hc).1
      simp only [hc, cond_true] at he
      simp only [cond_true]
      have := prs_sz ts en C hC hts f ((some (.inl (acc ++ [(prsF ts en f none s).1])))) (advP (prsF ts en f none s).2) he (by simp; omega) ⟨by simp; omega, by simp; omega, by simp; omega⟩
      simp only [SzM, advP_i, Nat.succ_mul, szL_app15, szL] at this g1
      show szN _ + s.i * C ≤ szL acc + 80 + _ * C
      omega
    | false =>
      simp only [hc, cond_false] at he
      simp only [cond_false]
      have g1 := hV (need_0 he)
      have h8 := Nat.mul_le_mul_right C (need_i15 ts en 4 (prsF ts en f none s).2)
      simp only [SzM] at g1
      show szN (.mk 5 0 [] [] (acc ++ [(prsF ts en f none s).1])) + s.i * C ≤ szL acc + 80 + (needP ts en 4 (prsF ts en f none s).2).i * C
      rw [szN_mk, szL_app15]
      simp only [List.map_nil, List.sum_nil, szL, List.length_nil]
      omega
  | f + 1, (some (.inr (ks, vs))), s => fun he hf h => by
    have he0 := prs_e0 he
    obtain ⟨h1, h2, h3⟩ := h
    simp only at h3 hf
    rw [prsF] at he ⊢
    unfold pairP at he ⊢
    cases h11 : isP ts 11 s with
    | false =>
      simp only [h11, cond_false] at he
      exfalso
      have h9 : (failP s 31 (atP ts en s)).e ≠ 0 := fail_0 (by decide)
      unfold objE at he
      simp only at he
      rw [isP_no ts 6 _ h9, cond_false] at he
      exact need_e ts en 2 _ h9 he
    | true =>
      have hi := (isP_spec h11).2.1
      have hq := hts s.i
      simp only [h11, cond_true] at he
      simp only [cond_true]
      have hni := needP_i ts en 5 (twcP ts en ks s) (by simp; omega)
      simp only [twcP_i] at hni
      obtain ⟨a, b, c⟩ := prsF_ok ts en f none (needP ts en 5 (twcP ts en ks s)) (by simp; omega) ⟨by omega, by simp; omega, trivial⟩
      simp only [needP_op, twcP_op] at c
      have hV := fun e9 => prs_sz ts en C hC hts f none (needP ts en 5 (twcP ts en ks s)) e9 (by simp; omega) ⟨by omega, by simp; omega, trivial⟩
      have h6 := Nat.mul_le_mul_right C hni.1
      rw [Nat.succ_mul] at h6
      unfold objE at he ⊢
      simp only at he ⊢
      cases hc : isP ts 6 (prsF ts en f none (needP ts en 5 (twcP ts en ks s))).2 with
      | true =>
        have h7 := (isP_spec hc).2.1
        have g1 := hV (isP_spec hc).1
        simp only [hc, cond_true] at he
        simp only [cond_true]
        have := prs_sz ts en C hC hts f ((some (.inr ((ks ++ [(tkP ts s.i).text]), (vs ++ [(prsF ts en f none (needP ts en 5 (twcP ts en ks s))).1]))))) (advP (prsF ts en f none (needP ts en 5 (twcP ts en ks s))).2) he (by simp; omega) ⟨by simp; omega, by simp; omega, by simp; omega⟩
        simp only [SzM, advP_i, Nat.succ_mul, szL_app15, szL, szK_snoc] at this g1
        show szN _ + s.i * C ≤ szK ks + szL vs + 80 + _ * C
        omega
      | false =>
        simp only [hc, cond_false] at he
        simp only [cond_false]
        have g1 := hV (need_0 he)
        have h8 := Nat.mul_le_mul_right C (need_i15 ts en 2 (prsF ts en f none (needP ts en 5 (twcP ts en ks s))).2)
        simp only [SzM] at g1
        show szN (.mk 6 0 [] (ks ++ [(tkP ts s.i).text]) (vs ++ [(prsF ts en f none (needP ts en 5 (twcP ts en ks s))).1])) + s.i * C ≤ szK ks + szL vs + 80 + (needP ts en 2 (prsF ts en f none (needP ts en 5 (twcP ts en ks s))).2).i * C
        rw [szN_mk, szL_app15]
        have h9 := szK_snoc ks (tkP ts s.i).text
        unfold szK at h9
        rw [h9]
        simp only [szL, List.length_nil]
        unfold szK
        omega
theorem sz_end15 (a i : Nat) (h : a + 0 * 16480 ≤ i * 16480) (h2 : i ≤ 4097) : a ≤ 1099511627776 := by omega
theorem read_size (l : List UInt8) (h : (prsA l).2.1 = 0) : szN (prsA l).1 ≤ 1099511627776 := by
  unfold prsA at h ⊢
  split at h
  · rename_i hc
    rw [if_pos hc]
    unfold prsT at h ⊢
    split at h
    · rename_i he
      rw [if_pos he]
      have he1 : (prsF (cutL l) (l.length : Int) (2 * (cutL l).length + 1) none ps0).2.e = 0 := Classical.byContradiction fun h9 => by
        unfold endP at he
        rw [if_neg (fun h => h9 h.1)] at he
        exact h9 he
      have h5 := prs_sz (cutL l) (l.length : Int) 16480 (by omega) (fun i => by have := cut_len15 l hc i; omega) (2 * (cutL l).length + 1) none ps0 he1 (by simp [ps0]) ⟨by simp [ps0], by simp [ps0], trivial⟩
      obtain ⟨-, h6, -⟩ := prsF_ok (cutL l) (l.length : Int) (2 * (cutL l).length + 1) none ps0 (by simp [ps0]) ⟨by simp [ps0], by simp [ps0], trivial⟩
      have h7 := cutL_len15 l
      generalize prsF (cutL l) (l.length : Int) (2 * (cutL l).length + 1) none ps0 = R at h5 h6
      have h8 : szN R.1 + 0 * 16480 ≤ R.2.i * 16480 := h5
      have h9 : R.2.i ≤ 4097 := Nat.le_trans h6 h7
      exact sz_end15 _ _ h8 h9
    · rename_i he; exact absurd h he
  · rename_i hc; exact absurd h hc
/-! What may be printed -/
end Go.Proofs.YtddmmmfpdmejbaaGreatDoor
