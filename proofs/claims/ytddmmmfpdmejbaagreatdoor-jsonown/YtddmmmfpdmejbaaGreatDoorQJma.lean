import Derived.Test.YtddmmmfpdmejbaaGreatDoorQLexP
import Derived.Test.YtddmmmfpdmejbaaGreatDoorQNum
namespace Go.Proofs.YtddmmmfpdmejbaaGreatDoor
open Go.RowKit

/-! What is printed, cut into tokens -/
set_option linter.unusedVariables false
def Gd (i1 : Nd) : Prop := ∀ Q : Nd → Prop, (Q (.mk 1 0 [] [] [])) → (Q (.mk 2 1 [] [] [])) → (Q (.mk 2 0 [] [] [])) → (∀ (n : Int) (h0 : 0 ≤ n) (h1 : n ≤ 9223372036854775807), Q (.mk 3 n [] [] [])) → (∀ (s : List UInt8) (h : quE s = 0), Q (.mk 4 0 s [] [])) → (∀ (vs : List Nd) (h : ∀ d ∈ vs, Q d), Q (.mk 5 0 [] [] vs)) → (∀ (ks : List (List UInt8)) (vs : List Nd) (hl : ks.length = vs.length) (hk : ∀ k ∈ ks, quE k = 0) (hd : dupK ks = false) (h : ∀ d ∈ vs, Q d), Q (.mk 6 0 [] ks vs)) → Q i1
theorem Gd.null  : Gd (.mk 1 0 [] [] []) := fun Q q0 q1 q2 q3 q4 q5 q6 => q0
theorem Gd.tru  : Gd (.mk 2 1 [] [] []) := fun Q q0 q1 q2 q3 q4 q5 q6 => q1
theorem Gd.fls  : Gd (.mk 2 0 [] [] []) := fun Q q0 q1 q2 q3 q4 q5 q6 => q2
theorem Gd.num (n : Int) (h0 : 0 ≤ n) (h1 : n ≤ 9223372036854775807) : Gd (.mk 3 n [] [] []) := fun Q q0 q1 q2 q3 q4 q5 q6 => q3 n h0 h1
theorem Gd.str (s : List UInt8) (h : quE s = 0) : Gd (.mk 4 0 s [] []) := fun Q q0 q1 q2 q3 q4 q5 q6 => q4 s h
theorem Gd.list (vs : List Nd) (h : ∀ d ∈ vs, Gd d) : Gd (.mk 5 0 [] [] vs) := fun Q q0 q1 q2 q3 q4 q5 q6 => q5 vs (fun d hz0 => h d hz0 Q q0 q1 q2 q3 q4 q5 q6)
theorem Gd.obj (ks : List (List UInt8)) (vs : List Nd) (hl : ks.length = vs.length) (hk : ∀ k ∈ ks, quE k = 0) (hd : dupK ks = false) (h : ∀ d ∈ vs, Gd d) : Gd (.mk 6 0 [] ks vs) := fun Q q0 q1 q2 q3 q4 q5 q6 => q6 ks vs hl hk hd (fun d hz0 => h d hz0 Q q0 q1 q2 q3 q4 q5 q6)
end Go.Proofs.YtddmmmfpdmejbaaGreatDoor
namespace Go.Proofs.YtddmmmfpdmejbaaGreatDoor
open Go.RowKit

/-! The tokens of what is printed, read -/
/-- From i on the tokens are those of D (but for their places). -/
def Mt (ts : List Tk) (i : Nat) (D : TD) : Prop := i + D.length ≤ ts.length ∧ ∀ (j : Nat) x, D[j]? = some x → (tkP ts (i + j)).kind = x.2.2.kind ∧ (tkP ts (i + j)).n = x.2.2.n ∧ (tkP ts (i + j)).text = x.2.2.text
theorem Mt.cons {ts : List Tk} {i : Nat} {x : List UInt8 × List UInt8 × Tk} {D : TD} (h : Mt ts i (x :: D)) : i < ts.length ∧ ((tkP ts i).kind = x.2.2.kind ∧ (tkP ts i).n = x.2.2.n ∧ (tkP ts i).text = x.2.2.text) ∧ Mt ts (i + 1) D := by
  obtain ⟨h1, h2⟩ := h
  rw [List.length_cons] at h1
  refine ⟨by omega, by have := h2 0 x rfl; simpa using this, by omega, fun j y hy => ?_⟩
  have := h2 (j + 1) y (by simpa using hy)
  rwa [show i + (j + 1) = i + 1 + j by omega] at this
theorem Mt.app {ts : List Tk} {i : Nat} {D E : TD} (h : Mt ts i (D ++ E)) : Mt ts i D ∧ Mt ts (i + D.length) E := by
  obtain ⟨h1, h2⟩ := h
  rw [List.length_append] at h1
  refine ⟨⟨by omega, fun j y hy => h2 j y ?_⟩, ⟨by omega, fun j y hy => ?_⟩⟩
  · rw [List.getElem?_append_left (List.getElem?_eq_some_iff.1 hy).1]; exact hy
  · have := h2 (D.length + j) y (by rw [List.getElem?_append_right (by omega)]; simpa using hy)
    rwa [← Nat.add_assoc] at this
end Go.Proofs.YtddmmmfpdmejbaaGreatDoor
namespace Go.Proofs.YtddmmmfpdmejbaaGreatDoor
open Go.RowKit

/-! What is printed is read as it was -/
/-! Each piece of what is printed is one token -/
/-! Digits -/
/-! All of it -/
end Go.Proofs.YtddmmmfpdmejbaaGreatDoor
namespace Go.Proofs.YtddmmmfpdmejbaaGreatDoor
open Go.RowKit

/-! What is read may be printed -/
set_option linter.unusedVariables false
def U8 (i1 : List UInt8) : Prop := ∀ Q : List UInt8 → Prop, (Q []) → (∀ (v : Nat) (m : List UInt8) (hv : vR v) (h : Q m), Q (enc v ++ m)) → Q i1
theorem U8.nil  : U8 [] := fun Q q0 q1 => q0
theorem U8.cons (v : Nat) (m : List UInt8) (hv : vR v) (h : U8 m) : U8 (enc v ++ m) := fun Q q0 q1 => q1 v m hv (h Q q0 q1)
theorem U8.rc {M : ∀ (i1 : List UInt8), U8 i1 → Prop} (nil : M [] (U8.nil)) (cons : ∀ (v : Nat) (m : List UInt8) (hv : vR v) (h : U8 m), M m h → M (enc v ++ m) (U8.cons v m hv h)) {i1 : List UInt8} (h : U8 i1) : M i1 h :=
  (h (fun i1 => ∃ h9 : U8 i1, M i1 h9) (⟨U8.nil, nil⟩) (fun v m hv h => ⟨U8.cons v m hv h.1, cons v m hv h.1 h.2⟩)).2
theorem U8.app {a b : List UInt8} (ha : U8 a) (hb : U8 b) : U8 (a ++ b) := by
  induction ha using U8.rc with
  | nil => exact hb
  | cons v m hv h ih => rw [List.append_assoc]; exact .cons v _ hv ih
theorem U8.one (v : Nat) (hv : vR v) : U8 (enc v) := by
  have := U8.cons v [] hv .nil
  rwa [List.append_nil] at this
theorem U8.ascii (c : UInt8) (h : c.toNat < 128) : U8 [c] := by
  have := U8.one c.toNat ⟨by omega, by omega⟩
  rwa [enc_small _ h, u8_back] at this
theorem means_ascii (j : Nat) : (lB escMeans j).toNat < 128 := by
  rcases Nat.lt_or_ge j 8 with h | h
  · revert h; revert j; decide
  · unfold lB escMeans
    rw [List.getElem?_eq_none (by simpa using h)]
    decide
theorem hx_lt15 (l : List UInt8) : ∀ k v, hx l k = some v → v < 16 ^ k
  | 0, v, h => by
    simp only [hx, Option.some.injEq] at h
    omega
  | k + 1, v, h => by
    rw [hx] at h
    split at h
    · cases h
    · rename_i u hu
      have hr := hexV_range (lB l (2 + k))
      have := hx_lt15 l k u hu
      split at h
      · cases h
      · simp only [Option.some.injEq] at h
        rw [Nat.pow_succ]
        omega
theorem esc_u8 (x : List UInt8) (h : (escS x).2 ≠ 0) : U8 (escS x).1 := by
  have hU : escS x = escU x → U8 (escS x).1 := fun e => by
    rw [e] at h ⊢
    unfold escU at h ⊢
    split at h
    · exact absurd rfl h
    · rename_i h1
      rw [if_neg h1]
      cases hq : hx x 4 with
      | none => rw [hq] at h; exact absurd rfl h
      | some v =>
        simp only [hq] at h ⊢
        split at h
        · exact absurd rfl h
        · rename_i h2
          rw [if_neg h2]
          have h3 := hx_lt15 x 4 v hq
          have h4 : (16 : Nat) ^ 4 = 65536 := by decide
          exact U8.one v ⟨by omega, h2⟩
  by_cases h1 : 1 < x.length
  · cases he : escAt (lB x 1) 8 0 with
    | none => exact hU (by unfold escS; rw [if_pos h1, he])
    | some i =>
      have e : escS x = ([lB escMeans i], 2) := by unfold escS; rw [if_pos h1, he]
      rw [e]
      exact U8.ascii _ (means_ascii i)
  · exact hU (by unfold escS; rw [if_neg h1])
theorem piece_u8 (x : List UInt8) (h : (piece x).2 ≠ 0) : U8 (piece x).1 := by
  unfold piece at h ⊢
  split at h
  · rename_i h1; rw [if_pos h1]; exact esc_u8 x h
  · rename_i h1
    rw [if_neg h1]
    split at h
    · exact absurd rfl h
    · rename_i h2
      rw [if_neg h2]
      obtain ⟨ht, hv, -⟩ := enc_rn x (rn x).1 (rn x).2 rfl h
      rw [show (List.take (rn x).2 x, (rn x).2).1 = List.take (rn x).2 x from rfl, ht]
      exact U8.one _ hv
theorem txt_u8 (l : List UInt8) : ∀ f k out, (txt l f k out).2 ≠ 0 → U8 out → U8 (txt l f k out).1
  | 0, _, _, h, _ => absurd rfl h
  | f + 1, k, out, h, ho => by
    rw [txt] at h ⊢
    split at h
    · rename_i h1
      rw [if_pos h1]
      split at h
      · rename_i h2; rw [if_pos h2]; exact ho
      · rename_i h2
        rw [if_neg h2]
        split at h
        · exact absurd rfl h
        · rename_i h3
          rw [if_neg h3]
          exact txt_u8 l f _ _ h (ho.app (piece_u8 _ h3))
    · exact absurd rfl h
theorem quF_u8 {m : List UInt8} (hm : U8 m) : ∀ (P : List UInt8) (f : Nat) (out : List UInt8), m.length < f → (quF (P ++ m) f P.length out).isSome = true := by
  induction hm using U8.rc with
  | nil =>
    intro P f out hf
    obtain ⟨f, rfl⟩ : ∃ q, f = q + 1 := ⟨f - 1, by omega⟩
    rw [quF, if_neg (by simp)]
    rfl
  | cons v m hv h ih =>
    intro P f out hf
    obtain ⟨f, rfl⟩ : ∃ q, f = q + 1 := ⟨f - 1, by omega⟩
    rw [List.length_append] at hf
    have hp : 0 < (enc v).length := by
      unfold enc
      (repeat' split) <;> simp
    rw [quF, if_pos (by simp; omega), List.drop_left, rn_enc v hv m]
    simp only
    rw [if_neg (by omega)]
    have e1 : P ++ (enc v ++ m) = (P ++ enc v) ++ m := by simp
    have e2 : P.length + (enc v).length = (P ++ enc v).length := by simp
    rw [e1, e2]
    exact ih _ f _ (by omega)
theorem quE_u8 (m : List UInt8) (h : U8 m) : quE m = 0 := by
  have := quF_u8 h [] (m.length + 1) [34] (by omega)
  simp only [List.nil_append, List.length_nil] at this
  unfold quE quA
  cases hq : quF m (m.length + 1) 0 [34] with
  | none => rw [hq] at this; cases this
  | some R => rfl
/-- What may be told of a token. -/
def TkG (t : Tk) : Prop := (t.kind = 10 → 0 ≤ t.n ∧ t.n ≤ 9223372036854775807) ∧ (t.kind = 11 → quE t.text = 0)
theorem tkg_no (t : Tk) (h1 : ¬ t.kind = 10) (h2 : ¬ t.kind = 11) : TkG t := ⟨fun h => absurd h h1, fun h => absurd h h2⟩
theorem numW_max (l : List UInt8) : numW l ≤ 9223372036854775807 := by
  unfold numW
  split
  · omega
  · split
    · omega
    · split <;> omega
theorem sgnAt_lt (b : UInt8) : ∀ n i j, sgnAt b n i = some j → i ≤ j ∧ j < i + n
  | 0, _, _, h => by cases h
  | n + 1, i, j, h => by
    rw [sgnAt] at h
    split at h
    · cases h; omega
    · have := sgnAt_lt b n (i + 1) j h; omega
set_option linter.unusedSimpArgs false in
theorem word_good (x : List UInt8) (n : Nat) : TkG (wordTk x n).1 := by
  unfold wordTk
  split
  · exact tkg_no _ (by simp [tkZ]) (by simp [tkZ])
  · split
    · exact tkg_no _ (by simp [tkZ]) (by simp [tkZ])
    · split
      · exact tkg_no _ (by simp [tkZ]) (by simp [tkZ])
      · split
        · exact tkg_no _ (by simp [tkZ]) (by simp [tkZ])
        · rename_i h
          exact ⟨fun _ => ⟨by show 0 ≤ numW x; omega, numW_max x⟩, fun h => absurd h (by show ¬ (10 : Int) = 11; decide)⟩
theorem one_good (l : List UInt8) (h : (oneTk l).2 ≠ 0) : TkG (oneTk l).1 := by
  unfold oneTk at h ⊢
  cases hs : sgnAt (lB l 0) 6 0 with
  | some i =>
    have := sgnAt_lt _ 6 0 i hs
    exact tkg_no _ (by show ¬ (i : Int) + 1 = 10; omega) (by show ¬ (i : Int) + 1 = 11; omega)
  | none =>
    simp only [hs] at h ⊢
    split at h
    · rename_i h1
      rw [if_pos h1]
      exact ⟨fun h => absurd h (by show ¬ (11 : Int) = 10; decide), fun _ => quE_u8 _ (txt_u8 l _ _ _ h .nil)⟩
    · rename_i h1
      rw [if_neg h1]
      exact word_good _ _
theorem vd_good : ∀ (D : TD), VD D → ∀ (k : Nat) (t : Tk), t ∈ tks k D → TkG t
  | [], _, _, _, h => by cases h
  | (b, z, t) :: D, hV, k, x, h => by
    obtain ⟨⟨h1, h2⟩, -, -, h3⟩ := hV
    rw [tks] at h
    rcases List.mem_cons.1 h with rfl | h
    · have := one_good (b ++ (z ++ lay0 D)) (by rw [h1]; simp only; omega)
      rw [h1] at this
      exact this
    · exact vd_good D h3 _ x h
theorem cut_good (l : List UInt8) (h : cutE l = 0) (i : Nat) : TkG (tkP (cutL l) i) := by
  have hz : TkG tkZ := tkg_no _ (by decide) (by decide)
  unfold cutE at h
  split at h
  · cases h
  · rename_i h4
    cases hc : cutA l with
    | mk o p =>
      cases o with
      | none => rw [hc] at h; simp at h
      | some TS =>
        have e : cutL l = TS := by unfold cutL; rw [if_neg h4, hc]; rfl
        obtain ⟨z, D, -, -, hV, hT⟩ := cut_parts l TS p hc
        rw [e]
        unfold tkP
        cases hx : TS[i]? with
        | none => exact hz
        | some t =>
          rw [hT] at hx
          exact vd_good D hV _ t (List.mem_of_getElem? hx)
/-! A fault stays -/
theorem fail_e (s : Ps) (e a : Int) (h : s.e ≠ 0) : (failP s e a).e ≠ 0 := by unfold failP; rw [if_neg h]; exact h
theorem isP_no (ts : List Tk) (k : Int) (s : Ps) (h : s.e ≠ 0) : isP ts k s = false := by unfold isP; rw [decide_eq_false h, Bool.false_and]
theorem need_e (ts : List Tk) (en k : Int) (s : Ps) (h : s.e ≠ 0) : (needP ts en k s).e ≠ 0 := by
  unfold needP
  rw [isP_no ts k s h]
  exact fail_e s _ _ h
theorem prs_err (ts : List Tk) (en : Int) : ∀ (f : Nat) (m : Md) (s : Ps), s.e ≠ 0 → (prsF ts en f m s).2.e ≠ 0
  | 0, _, _, h => h
  | f + 1, none, s, h => by rw [prsF, if_pos h]; exact h
  | f + 1, (some (.inl acc)), s, h => by
    have h1 := prs_err ts en f none s h
    rw [prsF]
    unfold lstE
    rw [isP_no ts 6 _ h1, cond_false]
    exact need_e ts en 4 _ h1
  | f + 1, (some (.inr (ks, vs))), s, h => by
    rw [prsF]
    unfold pairP
    rw [isP_no ts 11 s h, cond_false]
    have h1 := fail_e s 31 (atP ts en s) h
    unfold objE
    simp only
    rw [isP_no ts 6 _ h1, cond_false]
    exact need_e ts en 2 _ h1
theorem prs_e0 {ts : List Tk} {en : Int} {f : Nat} {m : Md} {s : Ps} (h : (prsF ts en f m s).2.e = 0) : s.e = 0 := Classical.byContradiction fun h9 => prs_err ts en f m s h9 h
end Go.Proofs.YtddmmmfpdmejbaaGreatDoor
namespace Go.Proofs.YtddmmmfpdmejbaaGreatDoor
open Go.RowKit

/-! What is read may be printed: the reader -/
/-- What is read, by what was asked for. -/
def GdM (m : Md) (s : Ps) (d : Nd) : Prop := match m with
  | none => Gd d ∧ depN d + s.op ≤ 6
  | (some (.inl acc)) => ∃ vs, d = .mk 5 0 [] [] (acc ++ vs) ∧ ∀ x ∈ vs, Gd x ∧ depN x + s.op ≤ 6
  | (some (.inr (ks, vs))) => ∃ ks' vs', d = .mk 6 0 [] (ks ++ ks') (vs ++ vs') ∧ ks'.length = vs'.length ∧ (∀ k ∈ ks', quE k = 0) ∧ (dupK ks = false → dupK (ks ++ ks') = false) ∧ ∀ x ∈ vs', Gd x ∧ depN x + s.op ≤ 6
theorem depL_max : ∀ (vs : List Nd) (n : Nat), (∀ x ∈ vs, depN x ≤ n) → depL vs ≤ n
  | [], _, _ => by rw [depL]; omega
  | d :: r, n, h => by
    rw [depL]
    have h1 := h d (by simp)
    have h2 := depL_max r n (fun x hx => h x (by simp [hx]))
    omega
theorem dup_snoc : ∀ (a : List (List UInt8)) (k : List UInt8), dupK a = false → k ∉ a → dupK (a ++ [k]) = false
  | [], k, _, _ => by simp [dupK]
  | x :: a, k, h, hk => by
    rw [dupK, Bool.or_eq_false_iff] at h
    rw [List.cons_append, dupK, Bool.or_eq_false_iff]
    refine ⟨?_, dup_snoc a k h.2 (fun h9 => hk (by simp [h9]))⟩
    have h1 := h.1
    simp only [List.contains_eq_mem, decide_eq_false_iff_not] at h1 ⊢
    intro h9
    rcases List.mem_append.1 h9 with h9 | h9
    · exact h1 h9
    · rw [List.mem_singleton] at h9
      exact hk (by simp [h9])
theorem need_0 {ts : List Tk} {en k : Int} {s : Ps} (h : (needP ts en k s).e = 0) : s.e = 0 := Classical.byContradiction fun h9 => need_e ts en k s h9 h
theorem opn_0 {ts : List Tk} {s : Ps} (h : (opnP ts s).e = 0) : s.e = 0 ∧ s.op + 1 ≤ 6 := by
  unfold opnP at h
  split at h
  · unfold failP at h
    split at h
    · cases h
    · rename_i h1; exact absurd h h1
  · exact ⟨h, by omega⟩
theorem twc_0 {ts : List Tk} {en : Int} {ks : List (List UInt8)} {s : Ps} (h : (twcP ts en ks s).e = 0) : s.e = 0 ∧ (tkP ts s.i).text ∉ ks := by
  unfold twcP at h
  split at h
  · unfold failP at h
    split at h
    · cases h
    · rename_i h1; exact absurd h h1
  · rename_i h1; exact ⟨h, h1⟩
theorem fail_0 {s : Ps} {e a : Int} (he : e ≠ 0) : (failP s e a).e ≠ 0 := by
  unfold failP
  split
  · exact he
  · rename_i h; exact h
theorem prs_good (ts : List Tk) (en : Int) (hts : ∀ i, TkG (tkP ts i)) : ∀ (f : Nat) (m : Md) (s : Ps), 2 * (ts.length - s.i) + (match m with | none => 1 | _ => 2) ≤ f → okP ts m s → s.op ≤ 6 → (prsF ts en f m s).2.e = 0 → GdM m s (prsF ts en f m s).1
  | 0, none, s => fun h _ _ _ => by simp at h
  | 0, (some (.inl _)), s => fun h _ _ _ => by simp at h
  | 0, (some (.inr (_, _))), s => fun h _ _ _ => by simp at h
  | f + 1, none, s => fun hf h h6 he => by
    have he0 := prs_e0 he
    obtain ⟨h1, h2, -⟩ := h
    rw [prsF, if_neg (fun h => h he0)] at he ⊢
    have leaf : ∀ d, Gd d → depN d = 0 → GdM none s d := fun d hd h0 => ⟨hd, by rw [h0]; omega⟩
    have d0 : ∀ k n t, ¬ (k = 5 ∨ k = 6) → depN (ndK k n t) = 0 := fun k n t hk => by unfold ndK; rw [depN_mk, if_neg hk]
    cases h7 : isP ts 7 s with
    | true => exact leaf _ .null (d0 1 0 [] (by omega))
    | false =>
      cases h8 : isP ts 8 s with
      | true => exact leaf _ .tru (d0 2 1 [] (by omega))
      | false =>
        cases h9 : isP ts 9 s with
        | true => exact leaf _ .fls (d0 2 0 [] (by omega))
        | false =>
          cases h10 : isP ts 10 s with
          | true =>
            have := (hts s.i).1 (isP_spec h10).2.2
            exact leaf _ (.num _ this.1 this.2) (d0 3 _ [] (by omega))
          | false =>
            cases h11 : isP ts 11 s with
            | true => exact leaf _ (.str _ ((hts s.i).2 (isP_spec h11).2.2)) (d0 4 0 _ (by omega))
            | false =>
              simp only [h7, h8, h9, h10, h11, cond_false] at he
              simp only [cond_false]
              cases h3 : isP ts 3 s with
              | true =>
                have hi := (isP_spec h3).2.1
                simp only [h3, cond_true] at he
                simp only [cond_true]
                unfold lstB at he ⊢
                cases h4 : isP ts 4 (opnP ts (advP s)) with
                | true =>
                  obtain ⟨-, o6⟩ := opn_0 (isP_spec h4).1
                  simp only [advP_op] at o6
                  simp only [cond_true]
                  exact ⟨.list [] (fun d hd => by cases hd), by rw [depN_mk, if_pos (.inl rfl), depL]; omega⟩
                | false =>
                  simp only [h4, cond_false] at he
                  simp only [cond_false]
                  obtain ⟨-, o6⟩ := opn_0 (prs_e0 he)
                  simp only [advP_op] at o6
                  obtain ⟨vs, hd, hv⟩ := prs_good ts en hts f ((some (.inl []))) (opnP ts (advP s)) (by simp at hf ⊢; omega) ⟨by simp; omega, by simp; omega, by simp⟩ (by simp; omega) he
                  rw [hd, List.nil_append]
                  simp only [opnP_op, advP_op] at hv
                  refine ⟨.list vs (fun x hx => (hv x hx).1), ?_⟩
                  rw [depN_mk, if_pos (.inl rfl)]
                  have := depL_max vs (6 - (s.op + 1)) (fun x hx => by have := (hv x hx).2; omega)
                  omega
              | false =>
                cases h0 : isP ts 1 s with
                | true =>
                  have hi := (isP_spec h0).2.1
                  simp only [h3, h0, cond_true, cond_false] at he
                  simp only [cond_true, cond_false]
                  unfold objB at he ⊢
                  cases h4 : isP ts 2 (opnP ts (advP s)) with
                  | true =>
                    obtain ⟨-, o6⟩ := opn_0 (isP_spec h4).1
                    simp only [advP_op] at o6
                    simp only [cond_true]
                    exact ⟨.obj [] [] rfl (fun d hd => by cases hd) rfl (fun d hd => by cases hd), by rw [depN_mk, if_pos (.inr rfl), depL]; omega⟩
                  | false =>
                    simp only [h4, cond_false] at he
                    simp only [cond_false]
                    obtain ⟨-, o6⟩ := opn_0 (prs_e0 he)
                    simp only [advP_op] at o6
                    obtain ⟨ks, vs, hd, hl, hk, hdu, hv⟩ := prs_good ts en hts f ((some (.inr ([], [])))) (opnP ts (advP s)) (by simp at hf ⊢; omega) ⟨by simp; omega, by simp; omega, by simp⟩ (by simp; omega) he
                    rw [hd, List.nil_append, List.nil_append]
                    rw [List.nil_append] at hdu
                    simp only [opnP_op, advP_op] at hv
                    refine ⟨.obj ks vs hl hk (hdu rfl) (fun x hx => (hv x hx).1), ?_⟩
                    rw [depN_mk, if_pos (.inr rfl)]
                    have := depL_max vs (6 - (s.op + 1)) (fun x hx => by have := (hv x hx).2; omega)
                    omega
                | false =>
                  simp only [h3, h0, cond_false] at he
                  exact absurd he (fail_0 (by decide))
  | f + 1, (some (.inl acc)), s => fun hf h h6 he => by
    have he0 := prs_e0 he
    obtain ⟨h1, h2, h3⟩ := h
    simp only at h3 hf
    obtain ⟨a, b, c⟩ := prsF_ok ts en f none s (by simp; omega) ⟨h1, h2, trivial⟩
    simp only at c
    have hV := prs_good ts en hts f none s (by simp; omega) ⟨h1, h2, trivial⟩ h6
    rw [prsF] at he ⊢
    unfold lstE at he ⊢
    cases hc : isP ts 6 (prsF ts en f none s).2 with
    | true =>
      have h7 := (isP_spec hc).2.1
      obtain ⟨g1, g2⟩ := hV (isP_spec hc).1
      simp only [hc, cond_true] at he
      simp only [cond_true]
      obtain ⟨vs, hd, hv⟩ := prs_good ts en hts f ((some (.inl (acc ++ [(prsF ts en f none s).1])))) (advP (prsF ts en f none s).2) (by simp; omega) ⟨by simp; omega, by simp; omega, by simp; omega⟩ (by simp; omega) he
      simp only [advP_op, c] at hv
      refine ⟨(prsF ts en f none s).1 :: vs, by rw [hd, List.append_assoc]; rfl, fun x hx => ?_⟩
      rcases List.mem_cons.1 hx with rfl | hx
      · exact ⟨g1, g2⟩
      · exact hv x hx
    | false =>
      simp only [hc, cond_false] at he
      simp only [cond_false]
      obtain ⟨g1, g2⟩ := hV (need_0 he)
      refine ⟨[(prsF ts en f none s).1], rfl, fun x hx => ?_⟩
      rw [List.mem_singleton.1 hx]
      exact ⟨g1, g2⟩
  | f + 1, (some (.inr (ks, vs))), s => fun hf h h6 he => by
    have he0 := prs_e0 he
    obtain ⟨h1, h2, h3⟩ := h
    simp only at h3 hf
    rw [prsF] at he ⊢
    unfold pairP at he ⊢
    cases h11 : isP ts 11 s with
    | false =>
      simp only [h11, cond_false] at he
      exfalso
      have h9 : (failP s 31 (atP ts en s)).e ≠ 0 := fail_0 (by decide)
      unfold objE at he
      simp only at he
      rw [isP_no ts 6 _ h9, cond_false] at he
      exact need_e ts en 2 _ h9 he
    | true =>
      have hi := (isP_spec h11).2.1
      have hq := (hts s.i).2 (isP_spec h11).2.2
      simp only [h11, cond_true] at he
      simp only [cond_true]
      have hni := needP_i ts en 5 (twcP ts en ks s) (by simp; omega)
      simp only [twcP_i] at hni
      obtain ⟨a, b, c⟩ := prsF_ok ts en f none (needP ts en 5 (twcP ts en ks s)) (by simp; omega) ⟨by omega, by simp; omega, trivial⟩
      simp only [needP_op, twcP_op] at c
      have hV := prs_good ts en hts f none (needP ts en 5 (twcP ts en ks s)) (by simp; omega) ⟨by omega, by simp; omega, trivial⟩ (by simp; omega)
      unfold objE at he ⊢
      simp only at he ⊢
      cases hc : isP ts 6 (prsF ts en f none (needP ts en 5 (twcP ts en ks s))).2 with
      | true =>
        have h7 := (isP_spec hc).2.1
        have hz := (isP_spec hc).1
        obtain ⟨-, hnk⟩ := twc_0 (need_0 (prs_e0 hz))
        obtain ⟨g1, g2⟩ := hV hz
        simp only [needP_op, twcP_op] at g2
        simp only [hc, cond_true] at he
        simp only [cond_true]
        obtain ⟨ks', vs', hd, hl, hk, hdu, hv⟩ := prs_good ts en hts f ((some (.inr ((ks ++ [(tkP ts s.i).text]), (vs ++ [(prsF ts en f none (needP ts en 5 (twcP ts en ks s))).1]))))) (advP (prsF ts en f none (needP ts en 5 (twcP ts en ks s))).2) (by simp; omega) ⟨by simp; omega, by simp; omega, by simp; omega⟩ (by simp; omega) he
        simp only [advP_op, c] at hv
        refine ⟨(tkP ts s.i).text :: ks', (prsF ts en f none (needP ts en 5 (twcP ts en ks s))).1 :: vs', by rw [hd, List.append_assoc, List.append_assoc]; rfl, by simp [hl], fun x hx => ?_, fun h0 => ?_, fun x hx => ?_⟩
        · rcases List.mem_cons.1 hx with rfl | hx
          · exact hq
          · exact hk x hx
        · have := hdu (dup_snoc ks _ h0 hnk)
          rwa [List.append_assoc] at this
        · rcases List.mem_cons.1 hx with rfl | hx
          · exact ⟨g1, g2⟩
          · exact hv x hx
      | false =>
        simp only [hc, cond_false] at he
        simp only [cond_false]
        have hz := need_0 he
        obtain ⟨-, hnk⟩ := twc_0 (need_0 (prs_e0 hz))
        obtain ⟨g1, g2⟩ := hV hz
        simp only [needP_op, twcP_op] at g2
        refine ⟨[(tkP ts s.i).text], [(prsF ts en f none (needP ts en 5 (twcP ts en ks s))).1], rfl, rfl, fun x hx => ?_, fun h0 => dup_snoc ks _ h0 hnk, fun x hx => ?_⟩
        · rw [List.mem_singleton.1 hx]; exact hq
        · rw [List.mem_singleton.1 hx]; exact ⟨g1, g2⟩
/-- What is read may be printed. -/
theorem read_good (l : List UInt8) (h : (prsA l).2.1 = 0) : Gd (prsA l).1 ∧ depN (prsA l).1 ≤ 6 := by
  unfold prsA at h ⊢
  split at h
  · rename_i hc
    rw [if_pos hc]
    unfold prsT at h ⊢
    split at h
    · rename_i he
      rw [if_pos he]
      have he1 : (prsF (cutL l) (l.length : Int) (2 * (cutL l).length + 1) none ps0).2.e = 0 := Classical.byContradiction fun h9 => by
        unfold endP at he
        rw [if_neg (fun h => h9 h.1)] at he
        exact h9 he
      have := prs_good (cutL l) (l.length : Int) (cut_good l hc) (2 * (cutL l).length + 1) none ps0 (by simp [ps0]) ⟨by simp [ps0], by simp [ps0], trivial⟩ (by simp [ps0]) he1
      exact ⟨this.1, this.2⟩
    · rename_i he; exact absurd h he
  · rename_i hc; exact absurd h hc
end Go.Proofs.YtddmmmfpdmejbaaGreatDoor
