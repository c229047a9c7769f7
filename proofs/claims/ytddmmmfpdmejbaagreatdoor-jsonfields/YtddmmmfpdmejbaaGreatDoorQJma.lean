import Derived.Test.YtddmmmfpdmejbaaGreatDoorQLexP
import Derived.Test.YtddmmmfpdmejbaaGreatDoorQNum
namespace Go.Proofs.YtddmmmfpdmejbaaGreatDoor
open Go.RowKit

/-! What is printed, cut into tokens -/
set_option linter.unusedVariables false
def Gd (i1 : Nd) : Prop := ∀ Q : Nd → Prop, (Q (.mk 1 0 [] [] [])) → (Q (.mk 2 1 [] [] [])) → (Q (.mk 2 0 [] [] [])) → (∀ (n : Int) (h0 : 0 ≤ n) (h1 : n ≤ 9223372036854775807), Q (.mk 3 n [] [] [])) → (∀ (s : List UInt8) (h : quE s = 0), Q (.mk 4 0 s [] [])) → (∀ (vs : List Nd) (h : ∀ d ∈ vs, Q d), Q (.mk 5 0 [] [] vs)) → (∀ (ks : List (List UInt8)) (vs : List Nd) (hl : ks.length = vs.length) (hk : ∀ k ∈ ks, quE k = 0) (hd : dupK ks = false) (h : ∀ d ∈ vs, Q d), Q (.mk 6 0 [] ks vs)) → Q i1
theorem Gd.null  : Gd (.mk 1 0 [] [] []) := fun Q q0 q1 q2 q3 q4 q5 q6 => q0
theorem Gd.tru  : Gd (.mk 2 1 [] [] []) := fun Q q0 q1 q2 q3 q4 q5 q6 => q1
theorem Gd.fls  : Gd (.mk 2 0 [] [] []) := fun Q q0 q1 q2 q3 q4 q5 q6 => q2
theorem Gd.num (n : Int) (h0 : 0 ≤ n) (h1 : n ≤ 9223372036854775807) : Gd (.mk 3 n [] [] []) := fun Q q0 q1 q2 q3 q4 q5 q6 => q3 n h0 h1
theorem Gd.str (s : List UInt8) (h : quE s = 0) : Gd (.mk 4 0 s [] []) := fun Q q0 q1 q2 q3 q4 q5 q6 => q4 s h
theorem Gd.list (vs : List Nd) (h : ∀ d ∈ vs, Gd d) : Gd (.mk 5 0 [] [] vs) := fun Q q0 q1 q2 q3 q4 q5 q6 => q5 vs (fun d hz0 => h d hz0 Q q0 q1 q2 q3 q4 q5 q6)
theorem Gd.obj (ks : List (List UInt8)) (vs : List Nd) (hl : ks.length = vs.length) (hk : ∀ k ∈ ks, quE k = 0) (hd : dupK ks = false) (h : ∀ d ∈ vs, Gd d) : Gd (.mk 6 0 [] ks vs) := fun Q q0 q1 q2 q3 q4 q5 q6 => q6 ks vs hl hk hd (fun d hz0 => h d hz0 Q q0 q1 q2 q3 q4 q5 q6)
end Go.Proofs.YtddmmmfpdmejbaaGreatDoor
namespace Go.Proofs.YtddmmmfpdmejbaaGreatDoor
open Go.RowKit

/-! The tokens of what is printed, read -/
/-- From i on the tokens are those of D (but for their places). -/
def Mt (ts : List Tk) (i : Nat) (D : TD) : Prop := i + D.length ≤ ts.length ∧ ∀ (j : Nat) x, D[j]? = some x → (tkP ts (i + j)).kind = x.2.2.kind ∧ (tkP ts (i + j)).n = x.2.2.n ∧ (tkP ts (i + j)).text = x.2.2.text
theorem Mt.cons {ts : List Tk} {i : Nat} {x : List UInt8 × List UInt8 × Tk} {D : TD} (h : Mt ts i (x :: D)) : i < ts.length ∧ ((tkP ts i).kind = x.2.2.kind ∧ (tkP ts i).n = x.2.2.n ∧ (tkP ts i).text = x.2.2.text) ∧ Mt ts (i + 1) D := by
  obtain ⟨h1, h2⟩ := h
  rw [List.length_cons] at h1
  refine ⟨by omega, by have := h2 0 x rfl; simpa using this, by omega, fun j y hy => ?_⟩
  have := h2 (j + 1) y (by simpa using hy)
  rwa [show i + (j + 1) = i + 1 + j by omega] at this
theorem Mt.app {ts : List Tk} {i : Nat} {D E : TD} (h : Mt ts i (D ++ E)) : Mt ts i D ∧ Mt ts (i + D.length) E := by
  obtain ⟨h1, h2⟩ := h
  rw [List.length_append] at h1
  refine ⟨⟨by omega, fun j y hy => h2 j y ?_⟩, ⟨by omega, fun j y hy => ?_⟩⟩
  · rw [List.getElem?_append_left (List.getElem?_eq_some_iff.1 hy).1]; exact hy
  · have := h2 (D.length + j) y (by rw [List.getElem?_append_right (by omega)]; simpa using hy)
    rwa [← Nat.add_assoc] at this
end Go.Proofs.YtddmmmfpdmejbaaGreatDoor
namespace Go.Proofs.YtddmmmfpdmejbaaGreatDoor
open Go.RowKit

/-! What is printed is read as it was -/
/-! Each piece of what is printed is one token -/
/-! Digits -/
/-! All of it -/
end Go.Proofs.YtddmmmfpdmejbaaGreatDoor
namespace Go.Proofs.YtddmmmfpdmejbaaGreatDoor
open Go.RowKit

/-! What is read may be printed -/
set_option linter.unusedVariables false
def U8 (i1 : List UInt8) : Prop := ∀ Q : List UInt8 → Prop, (Q []) → (∀ (v : Nat) (m : List UInt8) (hv : vR v) (h : Q m), Q (enc v ++ m)) → Q i1
theorem U8.nil  : U8 [] := fun Q q0 q1 => q0
theorem U8.cons (v : Nat) (m : List UInt8) (hv : vR v) (h : U8 m) : U8 (enc v ++ m) := fun Q q0 q1 => q1 v m hv (h Q q0 q1)
theorem U8.rc {M : ∀ (i1 : List UInt8), U8 i1 → Prop} (nil : M [] (U8.nil)) (cons : ∀ (v : Nat) (m : List UInt8) (hv : vR v) (h : U8 m), M m h → M (enc v ++ m) (U8.cons v m hv h)) {i1 : List UInt8} (h : U8 i1) : M i1 h :=
  (h (fun i1 => ∃ h9 : U8 i1, M i1 h9) (⟨U8.nil, nil⟩) (fun v m hv h => ⟨U8.cons v m hv h.1, cons v m hv h.1 h.2⟩)).2
theorem U8.app {a b : List UInt8} (ha : U8 a) (hb : U8 b) : U8 (a ++ b) := by
  induction ha using U8.rc with
  | nil => exact hb
  | cons v m hv h ih => rw [List.append_assoc]; exact .cons v _ hv ih
theorem U8.one (v : Nat) (hv : vR v) : U8 (enc v) := by
  have := U8.cons v [] hv .nil
  rwa [List.append_nil] at this
theorem U8.ascii (c : UInt8) (h : c.toNat < 128) : U8 [c] := by
  have := U8.one c.toNat ⟨by omega, by omega⟩
  rwa [enc_small _ h, u8_back] at this
theorem means_ascii (j : Nat) : (lB escMeans j).toNat < 128 := by
  rcases Nat.lt_or_ge j 8 with h | h
  · revert h; revert j; decide
  · unfold lB escMeans
    rw [List.getElem?_eq_none (by simpa using h)]
    decide
theorem hx_lt15 (l : List UInt8) : ∀ k v, hx l k = some v → v < 16 ^ k
  | 0, v, h => by
    simp only [hx, Option.some.injEq] at h
    omega
  | k + 1, v, h => by
    rw [hx] at h
    split at h
    · cases h
    · rename_i u hu
      have hr := hexV_range (lB l (2 + k))
      have := hx_lt15 l k u hu
      split at h
      · cases h
      · simp only [Option.some.injEq] at h
        rw [Nat.pow_succ]
        omega
theorem esc_u8 (x : List UInt8) (h : (escS x).2 ≠ 0) : U8 (escS x).1 := by
  have hU : escS x = escU x → U8 (escS x).1 := fun e => by
    rw [e] at h ⊢
    unfold escU at h ⊢
    split at h
    · exact absurd rfl h
    · rename_i h1
      rw [if_neg h1]
      cases hq : hx x 4 with
      | none => rw [hq] at h; exact absurd rfl h
      | some v =>
        simp only [hq] at h ⊢
        split at h
        · exact absurd rfl h
        · rename_i h2
          rw [if_neg h2]
          have h3 := hx_lt15 x 4 v hq
          have h4 : (16 : Nat) ^ 4 = 65536 := by decide
          exact U8.one v ⟨by omega, h2⟩
  by_cases h1 : 1 < x.length
  · cases he : escAt (lB x 1) 8 0 with
    | none => exact hU (by unfold escS; rw [if_pos h1, he])
    | some i =>
      have e : escS x = ([lB escMeans i], 2) := by unfold escS; rw [if_pos h1, he]
      rw [e]
      exact U8.ascii _ (means_ascii i)
  · exact hU (by unfold escS; rw [if_neg h1])
theorem piece_u8 (x : List UInt8) (h : (piece x).2 ≠ 0) : U8 (piece x).1 := by
  unfold piece at h ⊢
  split at h
  · rename_i h1; rw [if_pos h1]; exact esc_u8 x h
  · rename_i h1
    rw [if_neg h1]
    split at h
    · exact absurd rfl h
    · rename_i h2
      rw [if_neg h2]
      obtain ⟨ht, hv, -⟩ := enc_rn x (rn x).1 (rn x).2 rfl h
      rw [show (List.take (rn x).2 x, (rn x).2).1 = List.take (rn x).2 x from rfl, ht]
      exact U8.one _ hv
theorem txt_u8 (l : List UInt8) : ∀ f k out, (txt l f k out).2 ≠ 0 → U8 out → U8 (txt l f k out).1
  | 0, _, _, h, _ => absurd rfl h
  | f + 1, k, out, h, ho => by
    rw [txt] at h ⊢
    split at h
    · rename_i h1
      rw [if_pos h1]
      split at h
      · rename_i h2; rw [if_pos h2]; exact ho
      · rename_i h2
        rw [if_neg h2]
        split at h
        · exact absurd rfl h
        · rename_i h3
          rw [if_neg h3]
          exact txt_u8 l f _ _ h (ho.app (piece_u8 _ h3))
    · exact absurd rfl h
theorem quF_u8 {m : List UInt8} (hm : U8 m) : ∀ (P : List UInt8) (f : Nat) (out : List UInt8), m.length < f → (quF (P ++ m) f P.length out).isSome = true := by
  induction hm using U8.rc with
  | nil =>
    intro P f out hf
    obtain ⟨f, rfl⟩ : ∃ q, f = q + 1 := ⟨f - 1, by omega⟩
    rw [quF, if_neg (by simp)]
    rfl
  | cons v m hv h ih =>
    intro P f out hf
    obtain ⟨f, rfl⟩ : ∃ q, f = q + 1 := ⟨f - 1, by omega⟩
    rw [List.length_append] at hf
    have hp : 0 < (enc v).length := by
      unfold enc
      (repeat' split) <;> simp
    rw [quF, if_pos (by simp; omega), List.drop_left, rn_enc v hv m]
    simp only
    rw [if_neg (by omega)]
    have e1 : P ++ (enc v ++ m) = (P ++ enc v) ++ m := by simp
    have e2 : P.length + (enc v).length = (P ++ enc v).length := by simp
    rw [e1, e2]
    exact ih _ f _ (by omega)
theorem quE_u8 (m : List UInt8) (h : U8 m) : quE m = 0 := by
  have := quF_u8 h [] (m.length + 1) [34] (by omega)
  simp only [List.nil_append, List.length_nil] at this
  unfold quE quA
  cases hq : quF m (m.length + 1) 0 [34] with
  | none => rw [hq] at this; cases this
  | some R => rfl
/-- What may be told of a token. -/
def TkG (t : Tk) : Prop := (t.kind = 10 → 0 ≤ t.n ∧ t.n ≤ 9223372036854775807) ∧ (t.kind = 11 → quE t.text = 0)
theorem tkg_no (t : Tk) (h1 : ¬ t.kind = 10) (h2 : ¬ t.kind = 11) : TkG t := ⟨fun h => absurd h h1, fun h => absurd h h2⟩
theorem numW_max (l : List UInt8) : numW l ≤ 9223372036854775807 := by
  unfold numW
  split
  · omega
  · split
    · omega
    · split <;> omega
theorem sgnAt_lt (b : UInt8) : ∀ n i j, sgnAt b n i = some j → i ≤ j ∧ j < i + n
  | 0, _, _, h => by cases h
  | n + 1, i, j, h => by
    rw [sgnAt] at h
    split at h
    · cases h; omega
    · have := sgnAt_lt b n (i + 1) j h; omega
set_option linter.unusedSimpArgs false in
theorem word_good (x : List UInt8) (n : Nat) : TkG (wordTk x n).1 := by
  unfold wordTk
  split
  · exact tkg_no _ (by simp [tkZ]) (by simp [tkZ])
  · split
    · exact tkg_no _ (by simp [tkZ]) (by simp [tkZ])
    · split
      · exact tkg_no _ (by simp [tkZ]) (by simp [tkZ])
      · split
        · exact tkg_no _ (by simp [tkZ]) (by simp [tkZ])
        · rename_i h
          exact ⟨fun _ => ⟨by show 0 ≤ numW x; omega, numW_max x⟩, fun h => absurd h (by show ¬ (10 : Int) = 11; decide)⟩
theorem one_good (l : List UInt8) (h : (oneTk l).2 ≠ 0) : TkG (oneTk l).1 := by
  unfold oneTk at h ⊢
  cases hs : sgnAt (lB l 0) 6 0 with
  | some i =>
    have := sgnAt_lt _ 6 0 i hs
    exact tkg_no _ (by show ¬ (i : Int) + 1 = 10; omega) (by show ¬ (i : Int) + 1 = 11; omega)
  | none =>
    simp only [hs] at h ⊢
    split at h
    · rename_i h1
      rw [if_pos h1]
      exact ⟨fun h => absurd h (by show ¬ (11 : Int) = 10; decide), fun _ => quE_u8 _ (txt_u8 l _ _ _ h .nil)⟩
    · rename_i h1
      rw [if_neg h1]
      exact word_good _ _
theorem vd_good : ∀ (D : TD), VD D → ∀ (k : Nat) (t : Tk), t ∈ tks k D → TkG t
  | [], _, _, _, h => by cases h
  | (b, z, t) :: D, hV, k, x, h => by
    obtain ⟨⟨h1, h2⟩, -, -, h3⟩ := hV
    rw [tks] at h
    rcases List.mem_cons.1 h with rfl | h
    · have := one_good (b ++ (z ++ lay0 D)) (by rw [h1]; simp only; omega)
      rw [h1] at this
      exact this
    · exact vd_good D h3 _ x h
theorem cut_good (l : List UInt8) (h : cutE l = 0) (i : Nat) : TkG (tkP (cutL l) i) := by
  have hz : TkG tkZ := tkg_no _ (by decide) (by decide)
  unfold cutE at h
  split at h
  · cases h
  · rename_i h4
    cases hc : cutA l with
    | mk o p =>
      cases o with
      | none => rw [hc] at h; simp at h
      | some TS =>
        have e : cutL l = TS := by unfold cutL; rw [if_neg h4, hc]; rfl
        obtain ⟨z, D, -, -, hV, hT⟩ := cut_parts l TS p hc
        rw [e]
        unfold tkP
        cases hx : TS[i]? with
        | none => exact hz
        | some t =>
          rw [hT] at hx
          exact vd_good D hV _ t (List.mem_of_getElem? hx)
/-! A fault stays -/
end Go.Proofs.YtddmmmfpdmejbaaGreatDoor
