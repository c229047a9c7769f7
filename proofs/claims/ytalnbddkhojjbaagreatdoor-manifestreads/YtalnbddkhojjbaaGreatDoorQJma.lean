import Derived.Test.YtalnbddkhojjbaaGreatDoorQLexP
import Derived.Test.YtalnbddkhojjbaaGreatDoorQNum
namespace Go.Proofs.YtalnbddkhojjbaaGreatDoor
open Go.RowKit

set_option linter.unusedVariables false
def Gd (i1 : Nd) : Prop := ∀ Q : Nd → Prop, (Q (.mk 1 0 [] [] [])) → (Q (.mk 2 1 [] [] [])) → (Q (.mk 2 0 [] [] [])) → (∀ (n : Int) (h0 : 0 ≤ n) (h1 : n ≤ 9223372036854775807), Q (.mk 3 n [] [] [])) → (∀ (s : List UInt8) (h : quE s = 0), Q (.mk 4 0 s [] [])) → (∀ (vs : List Nd) (h : ∀ d ∈ vs, Q d), Q (.mk 5 0 [] [] vs)) → (∀ (ks : List (List UInt8)) (vs : List Nd) (hl : ks.length = vs.length) (hk : ∀ k ∈ ks, quE k = 0) (hd : dupK ks = false) (h : ∀ d ∈ vs, Q d), Q (.mk 6 0 [] ks vs)) → Q i1
theorem Gd.null  : Gd (.mk 1 0 [] [] []) := fun Q q0 q1 q2 q3 q4 q5 q6 => q0
theorem Gd.tru  : Gd (.mk 2 1 [] [] []) := fun Q q0 q1 q2 q3 q4 q5 q6 => q1
theorem Gd.fls  : Gd (.mk 2 0 [] [] []) := fun Q q0 q1 q2 q3 q4 q5 q6 => q2
theorem Gd.num (n : Int) (h0 : 0 ≤ n) (h1 : n ≤ 9223372036854775807) : Gd (.mk 3 n [] [] []) := fun Q q0 q1 q2 q3 q4 q5 q6 => q3 n h0 h1
theorem Gd.str (s : List UInt8) (h : quE s = 0) : Gd (.mk 4 0 s [] []) := fun Q q0 q1 q2 q3 q4 q5 q6 => q4 s h
theorem Gd.list (vs : List Nd) (h : ∀ d ∈ vs, Gd d) : Gd (.mk 5 0 [] [] vs) := fun Q q0 q1 q2 q3 q4 q5 q6 => q5 vs (fun d hz0 => h d hz0 Q q0 q1 q2 q3 q4 q5 q6)
theorem Gd.obj (ks : List (List UInt8)) (vs : List Nd) (hl : ks.length = vs.length) (hk : ∀ k ∈ ks, quE k = 0) (hd : dupK ks = false) (h : ∀ d ∈ vs, Gd d) : Gd (.mk 6 0 [] ks vs) := fun Q q0 q1 q2 q3 q4 q5 q6 => q6 ks vs hl hk hd (fun d hz0 => h d hz0 Q q0 q1 q2 q3 q4 q5 q6)
theorem Gd.rc {M : ∀ (i1 : Nd), Gd i1 → Prop} (null : M (.mk 1 0 [] [] []) (Gd.null)) (tru : M (.mk 2 1 [] [] []) (Gd.tru)) (fls : M (.mk 2 0 [] [] []) (Gd.fls)) (num : ∀ (n : Int) (h0 : 0 ≤ n) (h1 : n ≤ 9223372036854775807), M (.mk 3 n [] [] []) (Gd.num n h0 h1)) (str : ∀ (s : List UInt8) (h : quE s = 0), M (.mk 4 0 s [] []) (Gd.str s h)) (list : ∀ (vs : List Nd) (h : ∀ d ∈ vs, Gd d), (∀ (d : Nd) (hz0 : d ∈ vs), M d (h d hz0)) → M (.mk 5 0 [] [] vs) (Gd.list vs h)) (obj : ∀ (ks : List (List UInt8)) (vs : List Nd) (hl : ks.length = vs.length) (hk : ∀ k ∈ ks, quE k = 0) (hd : dupK ks = false) (h : ∀ d ∈ vs, Gd d), (∀ (d : Nd) (hz0 : d ∈ vs), M d (h d hz0)) → M (.mk 6 0 [] ks vs) (Gd.obj ks vs hl hk hd h)) {i1 : Nd} (h : Gd i1) : M i1 h :=
  (h (fun i1 => ∃ h9 : Gd i1, M i1 h9) (⟨Gd.null, null⟩) (⟨Gd.tru, tru⟩) (⟨Gd.fls, fls⟩) (fun n h0 h1 => ⟨Gd.num n h0 h1, num n h0 h1⟩) (fun s h => ⟨Gd.str s h, str s h⟩) (fun vs h => ⟨Gd.list vs (fun d hz0 => (h d hz0).1), list vs (fun d hz0 => (h d hz0).1) (fun d hz0 => (h d hz0).2)⟩) (fun ks vs hl hk hd h => ⟨Gd.obj ks vs hl hk hd (fun d hz0 => (h d hz0).1), obj ks vs hl hk hd (fun d hz0 => (h d hz0).1) (fun d hz0 => (h d hz0).2)⟩)).2
def tkO (k : Int) : Tk := ⟨k, 0, 0, []⟩
def jyL : List TD → Bool → TD
  | [], _ => []
  | t :: r, b => (bif b then [] else [([44], [], tkO 6)]) ++ (t ++ jyL r false)
def jyO : List (List UInt8) → List TD → Bool → TD
  | ks, t :: r, b => (bif b then [] else [([44], [], tkO 6)]) ++ ((quS (ks.headD []), [], ⟨11, 0, 0, ks.headD []⟩) :: ([58], [], tkO 5) :: (t ++ jyO ks.tail r false))
  | _, [], _ => []
def lyN : Nd → TD
  | .mk k n s ks vs =>
    if k = 1 then [([110, 117, 108, 108], [], tkO 7)]
    else if k = 2 then (if n = 1 then [([116, 114, 117, 101], [], tkO 8)] else [([102, 97, 108, 115, 101], [], tkO 9)])
    else if k = 3 then [(digN n, [], ⟨10, 0, n, []⟩)]
    else if k = 4 then [(quS s, [], ⟨11, 0, 0, s⟩)]
    else if k = 6 then ([123], [], tkO 1) :: (jyO ks (vs.map fun d => lyN d) true ++ [([125], [], tkO 2)])
    else ([91], [], tkO 3) :: (jyL (vs.map fun d => lyN d) true ++ [([93], [], tkO 4)])
def lyL : List Nd → Bool → TD
  | [], _ => []
  | d :: r, b => (bif b then [] else [([44], [], tkO 6)]) ++ (lyN d ++ lyL r false)
def lyO : List (List UInt8) → List Nd → Bool → TD
  | ks, d :: r, b => (bif b then [] else [([44], [], tkO 6)]) ++ ((quS (ks.headD []), [], ⟨11, 0, 0, ks.headD []⟩) :: ([58], [], tkO 5) :: (lyN d ++ lyO ks.tail r false))
  | _, [], _ => []
theorem lyL_mpp : ∀ (l : List Nd) (b : Bool), jyL (l.map fun d => lyN d) b = lyL l b
  | [], _ => rfl
  | d :: r, b => by rw [List.map_cons, jyL, lyL_mpp r false, lyL]
theorem lyO_mpp : ∀ (l : List Nd) (ks : List (List UInt8)) (b : Bool), jyO ks (l.map fun d => lyN d) b = lyO ks l b
  | [], ks, b => by rw [List.map_nil, jyO, lyO]
  | d :: r, ks, b => by rw [List.map_cons, jyO, lyO_mpp r ks.tail false, lyO]
theorem lyN_mk (k n : Int) (s : List UInt8) (ks : List (List UInt8)) (vs : List Nd) : lyN (.mk k n s ks vs) =
    if k = 1 then [([110, 117, 108, 108], [], tkO 7)]
    else if k = 2 then (if n = 1 then [([116, 114, 117, 101], [], tkO 8)] else [([102, 97, 108, 115, 101], [], tkO 9)])
    else if k = 3 then [(digN n, [], ⟨10, 0, n, []⟩)]
    else if k = 4 then [(quS s, [], ⟨11, 0, 0, s⟩)]
    else if k = 6 then ([123], [], tkO 1) :: (lyO ks vs true ++ [([125], [], tkO 2)])
    else ([91], [], tkO 3) :: (lyL vs true ++ [([93], [], tkO 4)]) := by rw [lyN, lyL_mpp, lyO_mpp]
theorem lay0_com (b : Bool) : lay0 (bif b then [] else [([44], [], tkO 6)]) = bif b then [] else [44] := by cases b <;> rfl
theorem layL_txt : ∀ (vs : List Nd) (b : Bool), (∀ d ∈ vs, lay0 (lyN d) = txtN d) → lay0 (lyL vs b) = txtL vs b
  | [], _, _ => rfl
  | d :: r, b, h => by
    rw [lyL, lay0_app, lay0_app, lay0_com, h d (by simp), layL_txt r false (fun x hx => h x (by simp [hx])), txtL, List.append_assoc]
theorem layO_txt : ∀ (vs : List Nd) (ks : List (List UInt8)) (b : Bool), (∀ d ∈ vs, lay0 (lyN d) = txtN d) → lay0 (lyO ks vs b) = txtO ks vs b
  | [], ks, _, _ => by cases ks <;> rfl
  | d :: r, ks, b, h => by
    rw [lyO, lay0_app, lay0_com, lay0, lay0, lay0_app, h d (by simp), layO_txt r ks.tail false (fun x hx => h x (by simp [hx])), txtO]
    simp
theorem lay_txt : ∀ d, lay0 (lyN d) = txtN d := Nd.ind fun k n s ks vs ih => by
  rw [lyN_mk, txtN_mk]
  (repeat' split) <;> first | rfl | (simp only [lay0, List.nil_append, List.append_nil]; done) | skip
  · rw [lay0, lay0_app, layO_txt vs ks true ih]; rfl
  · rw [lay0, lay0_app, layL_txt vs true ih]; rfl
end Go.Proofs.YtalnbddkhojjbaaGreatDoor
namespace Go.Proofs.YtalnbddkhojjbaaGreatDoor
open Go.RowKit

def Mt (ts : List Tk) (i : Nat) (D : TD) : Prop := i + D.length ≤ ts.length ∧ ∀ (j : Nat) x, D[j]? = some x → (tkP ts (i + j)).kind = x.2.2.kind ∧ (tkP ts (i + j)).n = x.2.2.n ∧ (tkP ts (i + j)).text = x.2.2.text
theorem Mt.cons {ts : List Tk} {i : Nat} {x : List UInt8 × List UInt8 × Tk} {D : TD} (h : Mt ts i (x :: D)) : i < ts.length ∧ ((tkP ts i).kind = x.2.2.kind ∧ (tkP ts i).n = x.2.2.n ∧ (tkP ts i).text = x.2.2.text) ∧ Mt ts (i + 1) D := by
  obtain ⟨h1, h2⟩ := h
  rw [List.length_cons] at h1
  refine ⟨by omega, by have := h2 0 x rfl; simpa using this, by omega, fun j y hy => ?_⟩
  have := h2 (j + 1) y (by simpa using hy)
  rwa [show i + (j + 1) = i + 1 + j by omega] at this
theorem Mt.app {ts : List Tk} {i : Nat} {D E : TD} (h : Mt ts i (D ++ E)) : Mt ts i D ∧ Mt ts (i + D.length) E := by
  obtain ⟨h1, h2⟩ := h
  rw [List.length_append] at h1
  refine ⟨⟨by omega, fun j y hy => h2 j y ?_⟩, ⟨by omega, fun j y hy => ?_⟩⟩
  · rw [List.getElem?_append_left (List.getElem?_eq_some_iff.1 hy).1]; exact hy
  · have := h2 (D.length + j) y (by rw [List.getElem?_append_right (by omega)]; simpa using hy)
    rwa [← Nat.add_assoc] at this
def st0 (i : Nat) (b : Int) (o : Nat) : Ps := ⟨i, 0, b, o⟩
theorem isP_eq (ts : List Tk) (k : Int) (i : Nat) (b : Int) (o : Nat) (h : i < ts.length) : isP ts k (st0 i b o) = decide ((tkP ts i).kind = k) := by
  unfold isP st0
  simp [h]
theorem adv_st (i : Nat) (b : Int) (o : Nat) : advP (st0 i b o) = st0 (i + 1) b o := rfl
theorem opn_st (ts : List Tk) (i : Nat) (b : Int) (o : Nat) (h : o + 1 ≤ 6) : opnP ts (st0 i b o) = st0 i b (o + 1) := by
  unfold opnP
  rw [if_neg (by show ¬ 6 < o + 1; omega)]
  rfl
theorem cls_st (i : Nat) (b : Int) (o : Nat) : clsP (st0 i b (o + 1)) = st0 i b o := rfl
theorem need_st (ts : List Tk) (en k : Int) (i : Nat) (b : Int) (o : Nat) (h : i < ts.length) (hk : (tkP ts i).kind = k) : needP ts en k (st0 i b o) = st0 (i + 1) b o := by
  unfold needP
  rw [isP_eq ts k i b o h, decide_eq_true hk]
  rfl
def PrN (d : Nd) : Prop := ∀ (ts : List Tk) (en : Int) (f i : Nat) (b : Int) (o : Nat), Gd d → Mt ts i (lyN d) → (lyN d).length ≤ f → depN d + o ≤ 6 → prsF ts en f none (st0 i b o) = (d, st0 (i + (lyN d).length) b o)
theorem lyN_pos : ∀ d, 0 < (lyN d).length := Nd.ind fun k n s ks vs _ => by
  rw [lyN_mk]
  (repeat' split) <;> simp
theorem prs_L (ts : List Tk) (en : Int) (b : Int) (o : Nat) : ∀ (vs : List Nd) (acc : List Nd) (f i : Nat), vs ≠ [] → (∀ d ∈ vs, PrN d) → (∀ d ∈ vs, Gd d) → Mt ts i (lyL vs true ++ [([93], [], tkO 4)]) → (lyL vs true).length + 1 ≤ f → depL vs + (o + 1) ≤ 6 →
    prsF ts en f ((some (.inl acc))) (st0 i b (o + 1)) = (.mk 5 0 [] [] (acc ++ vs), st0 (i + (lyL vs true).length + 1) b o)
  | [], _, _, _, h, _, _, _, _, _ => absurd rfl h
  | d :: r, acc, f, i, _, ih, hg, hm, hf, hd => by
    obtain ⟨f, rfl⟩ : ∃ q, f = q + 1 := ⟨f - 1, by omega⟩
    rw [depL] at hd
    have e0 : lyL (d :: r) true = lyN d ++ lyL r false := by rw [lyL]; rfl
    rw [e0, List.append_assoc] at hm
    rw [e0, List.length_append] at hf
    obtain ⟨m1, m2⟩ := hm.app
    rw [prsF, ih d (by simp) ts en f i b (o + 1) (hg d (by simp)) m1 (by omega) (by omega)]
    simp only
    unfold lstE
    rw [e0, List.length_append]
    cases r with
    | nil =>
      have e1 : lyL ([] : List Nd) false = [] := by rw [lyL]
      rw [e1] at m2 ⊢
      obtain ⟨l1, ⟨k1, -, -⟩, -⟩ := Mt.cons m2
      rw [isP_eq _ _ _ _ _ l1, decide_eq_false (by rw [k1]; decide), need_st ts en 4 _ b _ l1 k1, cls_st]
      rfl
    | cons a r =>
      have e1 : lyL (a :: r) false = ([44], [], tkO 6) :: lyL (a :: r) true := by rw [lyL, lyL]; rfl
      rw [e1] at m2 hf ⊢
      obtain ⟨l1, ⟨k1, -, -⟩, m3⟩ := Mt.cons m2
      rw [isP_eq _ _ _ _ _ l1, decide_eq_true (by rw [k1]; rfl), cond_true, adv_st]
      have := prs_L ts en b o (a :: r) (acc ++ [d]) f (i + (lyN d).length + 1) (by simp) (fun x hx => ih x (by simp [hx])) (fun x hx => hg x (by simp [hx])) m3 (by simp only [List.length_cons] at hf; have := lyN_pos d; omega) (by omega)
      rw [this]
      simp only [List.append_assoc, List.singleton_append, List.length_cons, Prod.mk.injEq, true_and]
      congr 1
      omega
theorem dup_app : ∀ (a : List (List UInt8)) (k : List UInt8) (r : List (List UInt8)), dupK (a ++ k :: r) = false → k ∉ a
  | [], _, _, _ => by simp
  | x :: a, k, r, h => by
    rw [List.cons_append, dupK, Bool.or_eq_false_iff] at h
    have h2 := dup_app a k r h.2
    have h1 : ¬ k = x := fun e => by
      have := h.1
      rw [e] at this
      simp at this
    simp [h1, h2]
theorem prs_O (ts : List Tk) (en : Int) (b : Int) (o : Nat) : ∀ (vs : List Nd) (ks qs : List (List UInt8)) (acc : List Nd) (f i : Nat), vs ≠ [] → ks.length = vs.length → dupK (qs ++ ks) = false → (∀ d ∈ vs, PrN d) → (∀ d ∈ vs, Gd d) → Mt ts i (lyO ks vs true ++ [([125], [], tkO 2)]) → (lyO ks vs true).length + 1 ≤ f → depL vs + (o + 1) ≤ 6 →
    prsF ts en f ((some (.inr (qs, acc)))) (st0 i b (o + 1)) = (.mk 6 0 [] (qs ++ ks) (acc ++ vs), st0 (i + (lyO ks vs true).length + 1) b o)
  | [], _, _, _, _, _, h, _, _, _, _, _, _, _ => absurd rfl h
  | d :: r, [], _, _, _, _, _, h, _, _, _, _, _, _ => by simp at h
  | d :: r, k :: ks, qs, acc, f, i, _, hl, hdu, ih, hg, hm, hf, hd => by
    obtain ⟨f, rfl⟩ : ∃ q, f = q + 1 := ⟨f - 1, by omega⟩
    rw [depL] at hd
    have e0 : lyO (k :: ks) (d :: r) true = (quS k, [], ⟨11, 0, 0, k⟩) :: ([58], [], tkO 5) :: (lyN d ++ lyO ks r false) := by rw [lyO]; rfl
    rw [e0] at hm hf ⊢
    simp only [List.cons_append, List.append_assoc] at hm
    simp only [List.length_cons, List.length_append] at hf ⊢
    obtain ⟨l1, ⟨k1, -, t1⟩, m1⟩ := Mt.cons hm
    obtain ⟨l2, ⟨k2, -, -⟩, m2⟩ := Mt.cons m1
    obtain ⟨m3, m4⟩ := m2.app
    rw [prsF]
    unfold pairP
    have htw : twcP ts en qs (st0 i b (o + 1)) = st0 (i + 1) b (o + 1) := by
      unfold twcP
      rw [if_neg]
      · rfl
      · show ¬ (tkP ts i).text ∈ qs
        rw [t1]
        exact dup_app qs k ks hdu
    rw [isP_eq _ _ _ _ _ l1, decide_eq_true (by rw [k1]), cond_true, htw, need_st ts en 5 _ b _ l2 k2, ih d (by simp) ts en f (i + 1 + 1) b (o + 1) (hg d (by simp)) m3 (by omega) (by omega)]
    simp only
    unfold objE
    simp only
    rw [show (tkP ts (st0 i b (o + 1)).i).text = k from t1]
    cases r with
    | nil =>
      have e1 : lyO ks ([] : List Nd) false = [] := by cases ks <;> rw [lyO]
      obtain rfl : ks = [] := by simpa using hl
      rw [e1] at m4 ⊢
      obtain ⟨l3, ⟨k3, -, -⟩, -⟩ := Mt.cons m4
      rw [isP_eq _ _ _ _ _ l3, decide_eq_false (by rw [k3]; decide), cond_false, need_st ts en 2 _ b _ l3 k3, cls_st]
      simp only [List.length_nil, Nat.add_zero, Prod.mk.injEq, true_and]
      congr 1
      omega
    | cons a r =>
      have e1 : lyO ks (a :: r) false = ([44], [], tkO 6) :: lyO ks (a :: r) true := by rw [lyO, lyO]; rfl
      rw [e1] at m4 hf ⊢
      obtain ⟨l3, ⟨k3, -, -⟩, m5⟩ := Mt.cons m4
      rw [isP_eq _ _ _ _ _ l3, decide_eq_true (by rw [k3]; rfl), cond_true, adv_st]
      have := prs_O ts en b o (a :: r) ks (qs ++ [k]) (acc ++ [d]) f (i + 1 + 1 + (lyN d).length + 1) (by simp) (by simpa using hl) (by simpa using hdu) (fun x hx => ih x (by simp [hx])) (fun x hx => hg x (by simp [hx])) m5 (by simp only [List.length_cons] at hf; have := lyN_pos d; omega) (by omega)
      rw [this]
      simp only [List.append_assoc, List.singleton_append, List.length_cons, Prod.mk.injEq, true_and]
      congr 1
      omega
theorem lyN_head (d : Nd) (h : Gd d) : ∃ x D, lyN d = x :: D ∧ x.2.2.kind ≠ 4 := by
  cases h using Gd.rc with
  | null => exact ⟨_, _, by rw [lyN_mk]; rfl, by decide⟩
  | tru => exact ⟨_, _, by rw [lyN_mk]; rfl, by decide⟩
  | fls => exact ⟨_, _, by rw [lyN_mk]; rfl, by decide⟩
  | num n h0 h1 => exact ⟨_, _, by rw [lyN_mk]; rfl, by show (10 : Int) ≠ 4; decide⟩
  | str s h => exact ⟨_, _, by rw [lyN_mk]; rfl, by show (11 : Int) ≠ 4; decide⟩
  | list vs h r9 => clear r9; exact ⟨([91], [], tkO 3), lyL vs true ++ [([93], [], tkO 4)], by rw [lyN_mk]; rfl, by decide⟩
  | obj ks vs hl hk hd h r9 => clear r9; exact ⟨([123], [], tkO 1), lyO ks vs true ++ [([125], [], tkO 2)], by rw [lyN_mk]; rfl, by decide⟩
theorem prs_N : ∀ d, PrN d := Nd.ind fun k n s ks vs ih ts en f i b o hg hm hf hd => by
  obtain ⟨f, rfl⟩ : ∃ q, f = q + 1 := ⟨f - 1, by have := lyN_pos (.mk k n s ks vs); omega⟩
  rw [prsF, if_neg (by show ¬ (0 : Int) ≠ 0; simp)]
  cases hg using Gd.rc with
  | null =>
    have e : lyN (.mk 1 0 [] [] []) = [([110, 117, 108, 108], [], tkO 7)] := by rw [lyN_mk]; rfl
    rw [e] at hm ⊢
    obtain ⟨l1, ⟨k1, -, -⟩, -⟩ := Mt.cons hm
    rw [isP_eq _ _ _ _ _ l1, decide_eq_true (by rw [k1]; rfl)]
    rfl
  | tru =>
    have e : lyN (.mk 2 1 [] [] []) = [([116, 114, 117, 101], [], tkO 8)] := by rw [lyN_mk]; rfl
    rw [e] at hm ⊢
    obtain ⟨l1, ⟨k1, -, -⟩, -⟩ := Mt.cons hm
    simp only [isP_eq _ _ _ _ _ l1, k1]
    rfl
  | fls =>
    have e : lyN (.mk 2 0 [] [] []) = [([102, 97, 108, 115, 101], [], tkO 9)] := by rw [lyN_mk]; rfl
    rw [e] at hm ⊢
    obtain ⟨l1, ⟨k1, -, -⟩, -⟩ := Mt.cons hm
    simp only [isP_eq _ _ _ _ _ l1, k1]
    rfl
  | num n h0 h1 =>
    have e : lyN (.mk 3 n [] [] []) = [(digN n, [], ⟨10, 0, n, []⟩)] := by rw [lyN_mk]; rfl
    rw [e] at hm ⊢
    obtain ⟨l1, ⟨k1, n1, -⟩, -⟩ := Mt.cons hm
    simp only [isP_eq _ _ _ _ _ l1, k1]
    rw [show (tkP ts (st0 i b o).i).n = n from n1]
    rfl
  | str s h =>
    have e : lyN (.mk 4 0 s [] []) = [(quS s, [], ⟨11, 0, 0, s⟩)] := by rw [lyN_mk]; rfl
    rw [e] at hm ⊢
    obtain ⟨l1, ⟨k1, -, t1⟩, -⟩ := Mt.cons hm
    simp only [isP_eq _ _ _ _ _ l1, k1]
    rw [show (tkP ts (st0 i b o).i).text = s from t1]
    rfl
  | list vs h r9 =>
    clear r9
    have e : lyN (.mk 5 0 [] [] vs) = ([91], [], tkO 3) :: (lyL vs true ++ [([93], [], tkO 4)]) := by rw [lyN_mk]; rfl
    rw [e] at hm hf ⊢
    obtain ⟨l1, ⟨k1, -, -⟩, m1⟩ := Mt.cons hm
    rw [depN_mk, if_pos (.inl rfl)] at hd
    simp only [isP_eq _ _ _ _ _ l1, k1]
    simp only [List.length_cons, List.length_append, List.length_nil] at hf ⊢
    show lstB ts (prsF ts en f) (st0 (i + 1) b o) = _
    unfold lstB
    rw [opn_st ts (i + 1) b o (by omega)]
    cases vs with
    | nil =>
      have e1 : lyL ([] : List Nd) true = [] := by rw [lyL]
      rw [e1] at m1 ⊢
      obtain ⟨l2, ⟨k2, -, -⟩, -⟩ := Mt.cons m1
      rw [isP_eq _ _ _ _ _ l2, decide_eq_true (by rw [k2]; rfl)]
      rfl
    | cons a r =>
      have hh : isP ts 4 (st0 (i + 1) b (o + 1)) = false := by
        obtain ⟨x, D, e2, hx⟩ := lyN_head a (h a (by simp))
        have e3 : lyL (a :: r) true = x :: (D ++ lyL r false) := by rw [lyL, e2]; rfl
        rw [e3] at m1
        obtain ⟨l2, ⟨k2, -, -⟩, -⟩ := Mt.cons m1
        rw [isP_eq _ _ _ _ _ l2, decide_eq_false (by rw [k2]; exact hx)]
      rw [hh, cond_false, prs_L ts en b o (a :: r) [] f (i + 1) (by simp) ih h m1 (by omega) (by omega)]
      simp only [List.nil_append, Prod.mk.injEq, true_and]
      congr 1
      omega
  | obj ks vs hl hk hdu h r9 =>
    clear r9
    have e : lyN (.mk 6 0 [] ks vs) = ([123], [], tkO 1) :: (lyO ks vs true ++ [([125], [], tkO 2)]) := by rw [lyN_mk]; rfl
    rw [e] at hm hf ⊢
    obtain ⟨l1, ⟨k1, -, -⟩, m1⟩ := Mt.cons hm
    rw [depN_mk, if_pos (.inr rfl)] at hd
    simp only [isP_eq _ _ _ _ _ l1, k1]
    simp only [List.length_cons, List.length_append, List.length_nil] at hf ⊢
    show objB ts (prsF ts en f) (st0 (i + 1) b o) = _
    unfold objB
    rw [opn_st ts (i + 1) b o (by omega)]
    cases vs with
    | nil =>
      obtain rfl : ks = [] := by simpa using hl
      have e1 : lyO [] ([] : List Nd) true = [] := by rw [lyO]
      rw [e1] at m1 ⊢
      obtain ⟨l2, ⟨k2, -, -⟩, -⟩ := Mt.cons m1
      rw [isP_eq _ _ _ _ _ l2, decide_eq_true (by rw [k2]; rfl)]
      rfl
    | cons a r =>
      have hh : isP ts 2 (st0 (i + 1) b (o + 1)) = false := by
        have e2 : lyO ks (a :: r) true = (quS (ks.headD []), [], ⟨11, 0, 0, ks.headD []⟩) :: ([58], [], tkO 5) :: (lyN a ++ lyO ks.tail r false) := by rw [lyO]; rfl
        rw [e2] at m1
        obtain ⟨l2, ⟨k2, -, -⟩, -⟩ := Mt.cons m1
        rw [isP_eq _ _ _ _ _ l2, decide_eq_false (by rw [k2]; show ¬ (11 : Int) = 2; decide)]
      rw [hh, cond_false, prs_O ts en b o (a :: r) ks [] [] f (i + 1) (by simp) hl hdu ih h m1 (by omega) (by omega)]
      simp only [List.nil_append, Prod.mk.injEq, true_and]
      congr 1
      omega
end Go.Proofs.YtalnbddkhojjbaaGreatDoor
namespace Go.Proofs.YtalnbddkhojjbaaGreatDoor
open Go.RowKit

theorem layG0 : ∀ (D : TD) (i : Nat), layG (fun _ => []) i D = lay0 D
  | [], _ => rfl
  | (b, z, t) :: D, i => by rw [layG, lay0, layG0 D (i + 1), List.nil_append]
theorem tkG0 : ∀ (D : TD) (k i : Nat), tkG (fun _ => []) k i D = tks k D
  | [], _, _ => rfl
  | (b, z, t) :: D, k, i => by rw [tkG, tks, tkG0 D _ (i + 1)]; rfl
theorem cut0 (D : TD) (h : VD D) : cutA (lay0 D) = (some (tks 0 D), 0) := by
  have := cut_gaps (fun _ => []) (fun _ => allB_nil) D h
  rwa [layG0, tkG0] at this
theorem tks_at : ∀ (D : TD) (k j : Nat) (x : List UInt8 × List UInt8 × Tk), D[j]? = some x → ∃ p, (tks k D)[j]? = some (atT x.2.2 p)
  | (b, z, t) :: D, k, 0, x, h => by
    simp at h
    subst h
    exact ⟨k, rfl⟩
  | (b, z, t) :: D, k, j + 1, x, h => by
    obtain ⟨p, hp⟩ := tks_at D (k + b.length + z.length) j x (by simpa using h)
    exact ⟨p, by rw [tks]; simpa using hp⟩
theorem mt_tks (D : TD) (k : Nat) : Mt (tks k D) 0 D := by
  refine ⟨by rw [tks_len, Nat.zero_add]; exact Nat.le_refl _, fun j x h => ?_⟩
  obtain ⟨p, hp⟩ := tks_at D k j x h
  unfold tkP
  rw [Nat.zero_add, hp]
  exact ⟨rfl, rfl, rfl⟩
theorem tok_sign (c : UInt8) (t : Tk) (h : oneTk [c] = (t, 1)) (hw : inW c = false) (r : List UInt8) : Tok [c] t r :=
  tok_any (r := []) ⟨by rw [List.append_nil]; exact h, by simp⟩ r fun h9 => by rw [show lB [c] 0 = c from rfl, hw] at h9; cases h9
theorem tok_wd (b : List UInt8) (t : Tk) (h : oneTk b = (t, b.length)) (h0 : 0 < b.length) (r : List UInt8) (hs : sf r) : Tok b t r :=
  tok_any (r := []) ⟨by rw [List.append_nil]; exact h, h0⟩ r fun _ => hs
theorem quS_some (s : List UInt8) (h : quE s = 0) : quA s = some (quS s) := by
  unfold quE at h
  unfold quS
  cases hq : quA s with
  | none => rw [hq] at h; simp at h
  | some R => rfl
theorem tok_str (s : List UInt8) (h : quE s = 0) (r : List UInt8) : Tok (quS s) ⟨11, 0, 0, s⟩ r ∧ blk (lB (quS s) 0) = false ∧ lB (quS s) 0 = 34 := by
  have hq := quS_some s h
  obtain ⟨q, hR, -⟩ := back_form s _ hq
  have h34 : lB (quS s) 0 = 34 := by rw [hR]; rfl
  have hp : 0 < (quS s).length := by rw [hR]; simp
  refine ⟨tok_any (r := []) ⟨by rw [List.append_nil]; exact one_back s _ hq, hp⟩ r fun h9 => ?_, by rw [h34]; decide, h34⟩
  rw [h34] at h9
  exact absurd h9 (by decide)
theorem nmV_go15 (l : List UInt8) (k v : Nat) (h : nmV l k = some v) : nmV l (k + 1) = if (lB l k).toNat < 48 ∨ 57 < (lB l k).toNat then none else some (10 * v + (lB l k).toNat - 48) := by rw [nmV, h]
theorem nmV_loc (l m : List UInt8) : ∀ k, (∀ j, j < k → lB l j = lB m j) → nmV l k = nmV m k
  | 0, _ => rfl
  | k + 1, h => by
    rw [nmV, nmV, nmV_loc l m k (fun j hj => h j (by omega)), h k (by omega)]
theorem digF_len : ∀ (f n k : Nat), n < 10 ^ k → 0 < k → (digF f n).length ≤ k
  | 0, _, _, _, _ => by simp [digF]
  | f + 1, n, k, hn, hk => by
    rw [digF]
    by_cases h : n < 10
    · rw [if_pos h]; show 1 ≤ k; omega
    · rw [if_neg h]
      obtain ⟨k, rfl⟩ : ∃ q, k = q + 1 := ⟨k - 1, by omega⟩
      have hk0 : 0 < k := by
        rcases Nat.eq_zero_or_pos k with rfl | h0
        · simp at hn; omega
        · exact h0
      have := digF_len f (n / 10) k (by rw [Nat.pow_succ] at hn; omega) hk0
      simp
      omega
theorem digF_spec : ∀ (f n : Nat), n < 10 ^ f → 0 < f → (digF f n).length ≤ f ∧ 0 < (digF f n).length ∧ (∀ c ∈ digF f n, 48 ≤ c.toNat ∧ c.toNat ≤ 57) ∧ (1 < (digF f n).length → lB (digF f n) 0 ≠ 48) ∧ (lB (digF f n) 0 = 48 → n = 0) ∧ nmV (digF f n) (digF f n).length = some n
  | 0, _, _, h => by omega
  | f + 1, n, hn, _ => by
    rw [digF]
    by_cases h : n < 10
    · rw [if_pos h]
      have e : (u8 (48 + n)).toNat = 48 + n := u8_at _ (by omega)
      refine ⟨by simp, by simp, fun c hc => ?_, fun h => by simp at h, fun h9 => ?_, ?_⟩
      · rw [List.mem_singleton.1 hc, e]; omega
      · have h8 := congrArg UInt8.toNat (show u8 (48 + n) = 48 from h9)
        rw [e] at h8
        have : (48 : UInt8).toNat = 48 := rfl
        omega
      · show nmV [u8 (48 + n)] 1 = some n
        rw [nmV_go15 _ 0 0 rfl]
        show (if (u8 (48 + n)).toNat < 48 ∨ 57 < (u8 (48 + n)).toNat then none else some (10 * 0 + (u8 (48 + n)).toNat - 48)) = _
        rw [e, if_neg (by omega)]
        congr 1
        omega
    · rw [if_neg h]
      have hf : 0 < f := by
        rcases Nat.eq_zero_or_pos f with rfl | h0
        · simp at hn; omega
        · exact h0
      obtain ⟨g1, g2, g3, g4, g5, g6⟩ := digF_spec f (n / 10) (by rw [Nat.pow_succ] at hn; omega) hf
      have e : (u8 (48 + n % 10)).toNat = 48 + n % 10 := u8_at _ (by omega)
      have e0 : lB (digF f (n / 10) ++ [u8 (48 + n % 10)]) 0 = lB (digF f (n / 10)) 0 := lB_app0 _ _ g2
      refine ⟨by simp; omega, by simp, fun c hc => ?_, fun _ h9 => ?_, fun h9 => ?_, ?_⟩
      · rcases List.mem_append.1 hc with h9 | h9
        · exact g3 c h9
        · rw [List.mem_singleton.1 h9, e]; omega
      · rw [e0] at h9
        have := g5 h9
        omega
      · rw [e0] at h9
        have := g5 h9
        omega
      · rw [List.length_append, List.length_singleton]
        have hk : nmV (digF f (n / 10) ++ [u8 (48 + n % 10)]) (digF f (n / 10)).length = some (n / 10) := by
          rw [nmV_loc _ (digF f (n / 10)) _ (fun j hj => lB_app9 _ _ j hj)]; exact g6
        rw [nmV_go15 _ _ _ hk, lB_at, show lB [u8 (48 + n % 10)] 0 = u8 (48 + n % 10) from rfl, e, if_neg (by omega)]
        congr 1
        omega
theorem tok_dig (n : Int) (h0 : 0 ≤ n) (h1 : n ≤ 9223372036854775807) (r : List UInt8) (hs : sf r) : Tok (digN n) ⟨10, 0, n, []⟩ r ∧ blk (lB (digN n) 0) = false := by
  have hn : n.toNat < 10 ^ 20 := by
    have : (10 : Nat) ^ 20 = 100000000000000000000 := by decide
    omega
  obtain ⟨g1, g2, g3, g4, g5, g6⟩ := digF_spec 20 n.toNat hn (by omega)
  have hb : 48 ≤ (lB (digF 20 n.toNat) 0).toNat ∧ (lB (digF 20 n.toNat) 0).toNat ≤ 57 := by
    apply g3
    unfold lB
    rw [List.getElem?_eq_getElem g2]
    exact List.getElem_mem _
  have hW : ∀ c : UInt8, 48 ≤ c.toNat ∧ c.toNat ≤ 57 → inW c = true ∧ blk c = false := by
    have h9 : ∀ m : Fin 256, 48 ≤ m.val ∧ m.val ≤ 57 → inW (UInt8.ofNat m.val) = true ∧ blk (UInt8.ofNat m.val) = false := by decide +kernel
    intro c hc
    have := h9 ⟨c.toNat, c.toNat_lt⟩ hc
    simpa using this
  have h19 : (digN n).length ≤ 19 := digF_len 20 n.toNat 19 (by
    have : (10 : Nat) ^ 19 = 10000000000000000000 := by decide
    omega) (by omega)
  have hnum : numW (digN n) = n := by
    unfold numW
    rw [if_neg (by
      rintro (a | a | ⟨a, c⟩)
      · unfold digN at a; omega
      · omega
      · exact g4 a c)]
    unfold digN
    rw [g6]
    show (if 9223372036854775807 < n.toNat then (-1 : Int) else (n.toNat : Int)) = n
    rw [if_neg (by omega)]
    omega
  refine ⟨tok_wd (digN n) _ ?_ g2 r hs, (hW _ hb).2⟩
  obtain ⟨s1, s2⟩ := sgn_not (hW _ hb).1
  have hwl : wl (digN n) = (digN n).length := by
    have := wl_of (digN n) [] (fun c hc => (hW c (g3 c hc)).1) (.inl rfl)
    rwa [List.append_nil] at this
  unfold oneTk
  rw [show sgnAt (lB (digN n) 0) 6 0 = none from s1]
  simp only
  rw [if_neg (show ¬ lB (digN n) 0 = 34 from s2), hwl, List.take_length]
  have hne : ∀ x : List UInt8, 57 < (lB x 0).toNat → digN n ≠ x := fun x hx e => by
    have h9 : (lB (digN n) 0).toNat ≤ 57 := hb.2
    rw [e] at h9
    omega
  unfold wordTk
  rw [if_neg (hne _ (by decide)), if_neg (hne _ (by decide)), if_neg (hne _ (by decide)), hnum, if_neg (by omega)]
def VdN (d : Nd) : Prop := ∀ E, Gd d → VD E → sf (lay0 E) → VD (lyN d ++ E)
theorem sf_sign (c : UInt8) (r : List UInt8) (h : inW c = false) : sf (c :: r) := .inr h
theorem vd_L : ∀ (vs : List Nd) (b : Bool) (E : TD), (∀ d ∈ vs, VdN d) → (∀ d ∈ vs, Gd d) → VD E → sf (lay0 E) → VD (lyL vs b ++ E) ∧ (b = false → sf (lay0 (lyL vs b ++ E)))
  | [], b, E, _, _, hE, hs => by rw [lyL]; exact ⟨hE, fun _ => hs⟩
  | d :: r, b, E, ih, hg, hE, hs => by
    obtain ⟨h1, h2⟩ := vd_L r false E (fun x hx => ih x (by simp [hx])) (fun x hx => hg x (by simp [hx])) hE hs
    have h3 : VD (lyN d ++ (lyL r false ++ E)) := ih d (by simp) _ (hg d (by simp)) h1 (h2 rfl)
    rw [lyL, List.append_assoc, List.append_assoc]
    cases b with
    | true => exact ⟨h3, fun h => by cases h⟩
    | false =>
      refine ⟨⟨tok_sign 44 (tkO 6) rfl (by decide) _, by decide, allB_nil, h3⟩, fun _ => ?_⟩
      exact sf_sign 44 _ (by decide)
theorem vd_O : ∀ (vs : List Nd) (ks : List (List UInt8)) (b : Bool) (E : TD), ks.length = vs.length → (∀ k ∈ ks, quE k = 0) → (∀ d ∈ vs, VdN d) → (∀ d ∈ vs, Gd d) → VD E → sf (lay0 E) → VD (lyO ks vs b ++ E) ∧ (b = false → sf (lay0 (lyO ks vs b ++ E)))
  | [], ks, b, E, _, _, _, _, hE, hs => by
    have : lyO ks ([] : List Nd) b = [] := by cases ks <;> rw [lyO]
    rw [this]; exact ⟨hE, fun _ => hs⟩
  | d :: r, [], b, E, hl, _, _, _, _, _ => by simp at hl
  | d :: r, k :: ks, b, E, hl, hk, ih, hg, hE, hs => by
    obtain ⟨h1, h2⟩ := vd_O r ks false E (by simpa using hl) (fun x hx => hk x (by simp [hx])) (fun x hx => ih x (by simp [hx])) (fun x hx => hg x (by simp [hx])) hE hs
    have h3 : VD (lyN d ++ (lyO ks r false ++ E)) := ih d (by simp) _ (hg d (by simp)) h1 (h2 rfl)
    obtain ⟨t1, t2, -⟩ := tok_str k (hk k (by simp)) ([] ++ lay0 (([58], [], tkO 5) :: (lyN d ++ (lyO ks r false ++ E))))
    have h4 : VD ((quS k, [], ⟨11, 0, 0, k⟩) :: ([58], [], tkO 5) :: (lyN d ++ (lyO ks r false ++ E))) := ⟨t1, t2, allB_nil, tok_sign 58 (tkO 5) rfl (by decide) _, by decide, allB_nil, h3⟩
    have e : lyO (k :: ks) (d :: r) b ++ E = (bif b then [] else [([44], [], tkO 6)]) ++ ((quS k, [], ⟨11, 0, 0, k⟩) :: ([58], [], tkO 5) :: (lyN d ++ (lyO ks r false ++ E))) := by
      rw [lyO]
      simp
    rw [e]
    cases b with
    | true => exact ⟨h4, fun h => by cases h⟩
    | false => exact ⟨⟨tok_sign 44 (tkO 6) rfl (by decide) _, by decide, allB_nil, h4⟩, fun _ => sf_sign 44 _ (by decide)⟩
theorem vd_N : ∀ d, VdN d := Nd.ind fun k n s ks vs ih E hg hE hs => by
  cases hg using Gd.rc with
  | null => rw [lyN_mk]; exact ⟨tok_wd _ _ rfl (by decide) _ hs, by decide, allB_nil, hE⟩
  | tru => rw [lyN_mk]; exact ⟨tok_wd _ _ rfl (by decide) _ hs, by decide, allB_nil, hE⟩
  | fls => rw [lyN_mk]; exact ⟨tok_wd _ _ rfl (by decide) _ hs, by decide, allB_nil, hE⟩
  | num n h0 h1 =>
    obtain ⟨t1, t2⟩ := tok_dig n h0 h1 ([] ++ lay0 E) hs
    rw [lyN_mk]; exact ⟨t1, t2, allB_nil, hE⟩
  | str s h =>
    obtain ⟨t1, t2, -⟩ := tok_str s h ([] ++ lay0 E)
    rw [lyN_mk]; exact ⟨t1, t2, allB_nil, hE⟩
  | list vs h r9 =>
    clear r9
    have e : lyN (.mk 5 0 [] [] vs) ++ E = ([91], [], tkO 3) :: (lyL vs true ++ (([93], [], tkO 4) :: E)) := by rw [lyN_mk]; simp
    rw [e]
    have h9 : VD (([93], [], tkO 4) :: E) := ⟨tok_sign 93 (tkO 4) rfl (by decide) _, by decide, allB_nil, hE⟩
    exact ⟨tok_sign 91 (tkO 3) rfl (by decide) _, by decide, allB_nil, (vd_L vs true _ ih h h9 (sf_sign 93 _ (by decide))).1⟩
  | obj ks vs hl hk hdu h r9 =>
    clear r9
    have e : lyN (.mk 6 0 [] ks vs) ++ E = ([123], [], tkO 1) :: (lyO ks vs true ++ (([125], [], tkO 2) :: E)) := by rw [lyN_mk]; simp
    rw [e]
    have h9 : VD (([125], [], tkO 2) :: E) := ⟨tok_sign 125 (tkO 2) rfl (by decide) _, by decide, allB_nil, hE⟩
    exact ⟨tok_sign 123 (tkO 1) rfl (by decide) _, by decide, allB_nil, (vd_O vs ks true _ hl hk ih h h9 (sf_sign 125 _ (by decide))).1⟩
theorem prs_txt (d : Nd) (hg : Gd d) (hd : depN d ≤ 6) (hl : (txtN d).length ≤ 4096) : prsA (txtN d) = (d, 0, 0) := by
  have hv : VD (lyN d) := by
    have := vd_N d [] hg trivial (.inl rfl)
    rwa [List.append_nil] at this
  have hc := cut0 (lyN d) hv
  rw [lay_txt] at hc
  have hE : cutE (txtN d) = 0 := by unfold cutE; rw [if_neg (by omega), hc]; rfl
  have hL : cutL (txtN d) = tks 0 (lyN d) := by unfold cutL; rw [if_neg (by omega), hc]; rfl
  unfold prsA
  rw [if_pos hE, hL]
  have hp := prs_N d (tks 0 (lyN d)) ((txtN d).length : Int) (2 * (tks 0 (lyN d)).length + 1) 0 0 0 hg (mt_tks _ 0) (by rw [tks_len]; omega) (by omega)
  have he : endP (tks 0 (lyN d)) ((txtN d).length : Int) (d, st0 (0 + (lyN d).length) 0 0) = st0 (0 + (lyN d).length) 0 0 := by
    unfold endP
    exact if_neg (by rintro ⟨-, h⟩; simp only [st0] at h; rw [tks_len] at h; omega)
  unfold prsT
  rw [show ps0 = st0 0 0 0 from rfl, hp, he]
  rfl
end Go.Proofs.YtalnbddkhojjbaaGreatDoor
namespace Go.Proofs.YtalnbddkhojjbaaGreatDoor
open Go.RowKit

set_option linter.unusedVariables false
def U8 (i1 : List UInt8) : Prop := ∀ Q : List UInt8 → Prop, (Q []) → (∀ (v : Nat) (m : List UInt8) (hv : vR v) (h : Q m), Q (enc v ++ m)) → Q i1
theorem U8.nil  : U8 [] := fun Q q0 q1 => q0
theorem U8.cons (v : Nat) (m : List UInt8) (hv : vR v) (h : U8 m) : U8 (enc v ++ m) := fun Q q0 q1 => q1 v m hv (h Q q0 q1)
theorem U8.rc {M : ∀ (i1 : List UInt8), U8 i1 → Prop} (nil : M [] (U8.nil)) (cons : ∀ (v : Nat) (m : List UInt8) (hv : vR v) (h : U8 m), M m h → M (enc v ++ m) (U8.cons v m hv h)) {i1 : List UInt8} (h : U8 i1) : M i1 h :=
  (h (fun i1 => ∃ h9 : U8 i1, M i1 h9) (⟨U8.nil, nil⟩) (fun v m hv h => ⟨U8.cons v m hv h.1, cons v m hv h.1 h.2⟩)).2
theorem U8.app {a b : List UInt8} (ha : U8 a) (hb : U8 b) : U8 (a ++ b) := by
  induction ha using U8.rc with
  | nil => exact hb
  | cons v m hv h ih => rw [List.append_assoc]; exact .cons v _ hv ih
theorem U8.one (v : Nat) (hv : vR v) : U8 (enc v) := by
  have := U8.cons v [] hv .nil
  rwa [List.append_nil] at this
theorem U8.ascii (c : UInt8) (h : c.toNat < 128) : U8 [c] := by
  have := U8.one c.toNat ⟨by omega, by omega⟩
  rwa [enc_small _ h, u8_back] at this
theorem means_ascii (j : Nat) : (lB escMeans j).toNat < 128 := by
  rcases Nat.lt_or_ge j 8 with h | h
  · revert h; revert j; decide
  · unfold lB escMeans
    rw [List.getElem?_eq_none (by simpa using h)]
    decide
theorem hx_lt15 (l : List UInt8) : ∀ k v, hx l k = some v → v < 16 ^ k
  | 0, v, h => by
    simp only [hx, Option.some.injEq] at h
    omega
  | k + 1, v, h => by
    rw [hx] at h
    split at h
    · cases h
    · rename_i u hu
      have hr := hexV_range (lB l (2 + k))
      have := hx_lt15 l k u hu
      split at h
      · cases h
      · simp only [Option.some.injEq] at h
        rw [Nat.pow_succ]
        omega
theorem esc_u8 (x : List UInt8) (h : (escS x).2 ≠ 0) : U8 (escS x).1 := by
  have hU : escS x = escU x → U8 (escS x).1 := fun e => by
    rw [e] at h ⊢
    unfold escU at h ⊢
    split at h
    · exact absurd rfl h
    · rename_i h1
      rw [if_neg h1]
      cases hq : hx x 4 with
      | none => rw [hq] at h; exact absurd rfl h
      | some v =>
        simp only [hq] at h ⊢
        split at h
        · exact absurd rfl h
        · rename_i h2
          rw [if_neg h2]
          have h3 := hx_lt15 x 4 v hq
          have h4 : (16 : Nat) ^ 4 = 65536 := by decide
          exact U8.one v ⟨by omega, h2⟩
  by_cases h1 : 1 < x.length
  · cases he : escAt (lB x 1) 8 0 with
    | none => exact hU (by unfold escS; rw [if_pos h1, he])
    | some i =>
      have e : escS x = ([lB escMeans i], 2) := by unfold escS; rw [if_pos h1, he]
      rw [e]
      exact U8.ascii _ (means_ascii i)
  · exact hU (by unfold escS; rw [if_neg h1])
theorem piece_u8 (x : List UInt8) (h : (piece x).2 ≠ 0) : U8 (piece x).1 := by
  unfold piece at h ⊢
  split at h
  · rename_i h1; rw [if_pos h1]; exact esc_u8 x h
  · rename_i h1
    rw [if_neg h1]
    split at h
    · exact absurd rfl h
    · rename_i h2
      rw [if_neg h2]
      obtain ⟨ht, hv, -⟩ := enc_rn x (rn x).1 (rn x).2 rfl h
      rw [show (List.take (rn x).2 x, (rn x).2).1 = List.take (rn x).2 x from rfl, ht]
      exact U8.one _ hv
theorem txt_u8 (l : List UInt8) : ∀ f k out, (txt l f k out).2 ≠ 0 → U8 out → U8 (txt l f k out).1
  | 0, _, _, h, _ => absurd rfl h
  | f + 1, k, out, h, ho => by
    rw [txt] at h ⊢
    split at h
    · rename_i h1
      rw [if_pos h1]
      split at h
      · rename_i h2; rw [if_pos h2]; exact ho
      · rename_i h2
        rw [if_neg h2]
        split at h
        · exact absurd rfl h
        · rename_i h3
          rw [if_neg h3]
          exact txt_u8 l f _ _ h (ho.app (piece_u8 _ h3))
    · exact absurd rfl h
theorem quF_u8 {m : List UInt8} (hm : U8 m) : ∀ (P : List UInt8) (f : Nat) (out : List UInt8), m.length < f → (quF (P ++ m) f P.length out).isSome = true := by
  induction hm using U8.rc with
  | nil =>
    intro P f out hf
    obtain ⟨f, rfl⟩ : ∃ q, f = q + 1 := ⟨f - 1, by omega⟩
    rw [quF, if_neg (by simp)]
    rfl
  | cons v m hv h ih =>
    intro P f out hf
    obtain ⟨f, rfl⟩ : ∃ q, f = q + 1 := ⟨f - 1, by omega⟩
    rw [List.length_append] at hf
    have hp : 0 < (enc v).length := by
      unfold enc
      (repeat' split) <;> simp
    rw [quF, if_pos (by simp; omega), List.drop_left, rn_enc v hv m]
    simp only
    rw [if_neg (by omega)]
    have e1 : P ++ (enc v ++ m) = (P ++ enc v) ++ m := by simp
    have e2 : P.length + (enc v).length = (P ++ enc v).length := by simp
    rw [e1, e2]
    exact ih _ f _ (by omega)
theorem quE_u8 (m : List UInt8) (h : U8 m) : quE m = 0 := by
  have := quF_u8 h [] (m.length + 1) [34] (by omega)
  simp only [List.nil_append, List.length_nil] at this
  unfold quE quA
  cases hq : quF m (m.length + 1) 0 [34] with
  | none => rw [hq] at this; cases this
  | some R => rfl
def TkG (t : Tk) : Prop := (t.kind = 10 → 0 ≤ t.n ∧ t.n ≤ 9223372036854775807) ∧ (t.kind = 11 → quE t.text = 0)
theorem tkg_no (t : Tk) (h1 : ¬ t.kind = 10) (h2 : ¬ t.kind = 11) : TkG t := ⟨fun h => absurd h h1, fun h => absurd h h2⟩
theorem numW_max (l : List UInt8) : numW l ≤ 9223372036854775807 := by
  unfold numW
  split
  · omega
  · split
    · omega
    · split <;> omega
theorem sgnAt_lt (b : UInt8) : ∀ n i j, sgnAt b n i = some j → i ≤ j ∧ j < i + n
  | 0, _, _, h => by cases h
  | n + 1, i, j, h => by
    rw [sgnAt] at h
    split at h
    · cases h; omega
    · have := sgnAt_lt b n (i + 1) j h; omega
set_option linter.unusedSimpArgs false in
theorem word_good (x : List UInt8) (n : Nat) : TkG (wordTk x n).1 := by
  unfold wordTk
  split
  · exact tkg_no _ (by simp [tkZ]) (by simp [tkZ])
  · split
    · exact tkg_no _ (by simp [tkZ]) (by simp [tkZ])
    · split
      · exact tkg_no _ (by simp [tkZ]) (by simp [tkZ])
      · split
        · exact tkg_no _ (by simp [tkZ]) (by simp [tkZ])
        · rename_i h
          exact ⟨fun _ => ⟨by show 0 ≤ numW x; omega, numW_max x⟩, fun h => absurd h (by show ¬ (10 : Int) = 11; decide)⟩
theorem one_good (l : List UInt8) (h : (oneTk l).2 ≠ 0) : TkG (oneTk l).1 := by
  unfold oneTk at h ⊢
  cases hs : sgnAt (lB l 0) 6 0 with
  | some i =>
    have := sgnAt_lt _ 6 0 i hs
    exact tkg_no _ (by show ¬ (i : Int) + 1 = 10; omega) (by show ¬ (i : Int) + 1 = 11; omega)
  | none =>
    simp only [hs] at h ⊢
    split at h
    · rename_i h1
      rw [if_pos h1]
      exact ⟨fun h => absurd h (by show ¬ (11 : Int) = 10; decide), fun _ => quE_u8 _ (txt_u8 l _ _ _ h .nil)⟩
    · rename_i h1
      rw [if_neg h1]
      exact word_good _ _
theorem vd_good : ∀ (D : TD), VD D → ∀ (k : Nat) (t : Tk), t ∈ tks k D → TkG t
  | [], _, _, _, h => by cases h
  | (b, z, t) :: D, hV, k, x, h => by
    obtain ⟨⟨h1, h2⟩, -, -, h3⟩ := hV
    rw [tks] at h
    rcases List.mem_cons.1 h with rfl | h
    · have := one_good (b ++ (z ++ lay0 D)) (by rw [h1]; simp only; omega)
      rw [h1] at this
      exact this
    · exact vd_good D h3 _ x h
theorem cut_good (l : List UInt8) (h : cutE l = 0) (i : Nat) : TkG (tkP (cutL l) i) := by
  have hz : TkG tkZ := tkg_no _ (by decide) (by decide)
  unfold cutE at h
  split at h
  · cases h
  · rename_i h4
    cases hc : cutA l with
    | mk o p =>
      cases o with
      | none => rw [hc] at h; simp at h
      | some TS =>
        have e : cutL l = TS := by unfold cutL; rw [if_neg h4, hc]; rfl
        obtain ⟨z, D, -, -, hV, hT⟩ := cut_parts l TS p hc
        rw [e]
        unfold tkP
        cases hx : TS[i]? with
        | none => exact hz
        | some t =>
          rw [hT] at hx
          exact vd_good D hV _ t (List.mem_of_getElem? hx)
theorem fail_e (s : Ps) (e a : Int) (h : s.e ≠ 0) : (failP s e a).e ≠ 0 := by unfold failP; rw [if_neg h]; exact h
theorem isP_no (ts : List Tk) (k : Int) (s : Ps) (h : s.e ≠ 0) : isP ts k s = false := by unfold isP; rw [decide_eq_false h, Bool.false_and]
theorem need_e (ts : List Tk) (en k : Int) (s : Ps) (h : s.e ≠ 0) : (needP ts en k s).e ≠ 0 := by
  unfold needP
  rw [isP_no ts k s h]
  exact fail_e s _ _ h
theorem prs_err (ts : List Tk) (en : Int) : ∀ (f : Nat) (m : Md) (s : Ps), s.e ≠ 0 → (prsF ts en f m s).2.e ≠ 0
  | 0, _, _, h => h
  | f + 1, none, s, h => by rw [prsF, if_pos h]; exact h
  | f + 1, (some (.inl acc)), s, h => by
    have h1 := prs_err ts en f none s h
    rw [prsF]
    unfold lstE
    rw [isP_no ts 6 _ h1, cond_false]
    exact need_e ts en 4 _ h1
  | f + 1, (some (.inr (ks, vs))), s, h => by
    rw [prsF]
    unfold pairP
    rw [isP_no ts 11 s h, cond_false]
    have h1 := fail_e s 31 (atP ts en s) h
    unfold objE
    simp only
    rw [isP_no ts 6 _ h1, cond_false]
    exact need_e ts en 2 _ h1
theorem prs_e0 {ts : List Tk} {en : Int} {f : Nat} {m : Md} {s : Ps} (h : (prsF ts en f m s).2.e = 0) : s.e = 0 := Classical.byContradiction fun h9 => prs_err ts en f m s h9 h
end Go.Proofs.YtalnbddkhojjbaaGreatDoor
namespace Go.Proofs.YtalnbddkhojjbaaGreatDoor
open Go.RowKit

def GdM (m : Md) (s : Ps) (d : Nd) : Prop := match m with
  | none => Gd d ∧ depN d + s.op ≤ 6
  | (some (.inl acc)) => ∃ vs, d = .mk 5 0 [] [] (acc ++ vs) ∧ ∀ x ∈ vs, Gd x ∧ depN x + s.op ≤ 6
  | (some (.inr (ks, vs))) => ∃ ks' vs', d = .mk 6 0 [] (ks ++ ks') (vs ++ vs') ∧ ks'.length = vs'.length ∧ (∀ k ∈ ks', quE k = 0) ∧ (dupK ks = false → dupK (ks ++ ks') = false) ∧ ∀ x ∈ vs', Gd x ∧ depN x + s.op ≤ 6
theorem depL_max : ∀ (vs : List Nd) (n : Nat), (∀ x ∈ vs, depN x ≤ n) → depL vs ≤ n
  | [], _, _ => by rw [depL]; omega
  | d :: r, n, h => by
    rw [depL]
    have h1 := h d (by simp)
    have h2 := depL_max r n (fun x hx => h x (by simp [hx]))
    omega
theorem dup_snoc : ∀ (a : List (List UInt8)) (k : List UInt8), dupK a = false → k ∉ a → dupK (a ++ [k]) = false
  | [], k, _, _ => by simp [dupK]
  | x :: a, k, h, hk => by
    rw [dupK, Bool.or_eq_false_iff] at h
    rw [List.cons_append, dupK, Bool.or_eq_false_iff]
    refine ⟨?_, dup_snoc a k h.2 (fun h9 => hk (by simp [h9]))⟩
    have h1 := h.1
    simp only [List.contains_eq_mem, decide_eq_false_iff_not] at h1 ⊢
    intro h9
    rcases List.mem_append.1 h9 with h9 | h9
    · exact h1 h9
    · rw [List.mem_singleton] at h9
      exact hk (by simp [h9])
theorem need_0 {ts : List Tk} {en k : Int} {s : Ps} (h : (needP ts en k s).e = 0) : s.e = 0 := Classical.byContradiction fun h9 => need_e ts en k s h9 h
theorem opn_0 {ts : List Tk} {s : Ps} (h : (opnP ts s).e = 0) : s.e = 0 ∧ s.op + 1 ≤ 6 := by
  unfold opnP at h
  split at h
  · unfold failP at h
    split at h
    · cases h
    · rename_i h1; exact absurd h h1
  · exact ⟨h, by omega⟩
theorem twc_0 {ts : List Tk} {en : Int} {ks : List (List UInt8)} {s : Ps} (h : (twcP ts en ks s).e = 0) : s.e = 0 ∧ (tkP ts s.i).text ∉ ks := by
  unfold twcP at h
  split at h
  · unfold failP at h
    split at h
    · cases h
    · rename_i h1; exact absurd h h1
  · rename_i h1; exact ⟨h, h1⟩
theorem fail_0 {s : Ps} {e a : Int} (he : e ≠ 0) : (failP s e a).e ≠ 0 := by
  unfold failP
  split
  · exact he
  · rename_i h; exact h
theorem prs_good (ts : List Tk) (en : Int) (hts : ∀ i, TkG (tkP ts i)) : ∀ (f : Nat) (m : Md) (s : Ps), 2 * (ts.length - s.i) + (match m with | none => 1 | _ => 2) ≤ f → okP ts m s → s.op ≤ 6 → (prsF ts en f m s).2.e = 0 → GdM m s (prsF ts en f m s).1
  | 0, none, s => fun h _ _ _ => by simp at h
  | 0, (some (.inl _)), s => fun h _ _ _ => by simp at h
  | 0, (some (.inr (_, _))), s => fun h _ _ _ => by simp at h
  | f + 1, none, s => fun hf h h6 he => by
    have he0 := prs_e0 he
    obtain ⟨h1, h2, -⟩ := h
    rw [prsF, if_neg (fun h => h he0)] at he ⊢
    have leaf : ∀ d, Gd d → depN d = 0 → GdM none s d := fun d hd h0 => ⟨hd, by rw [h0]; omega⟩
    have d0 : ∀ k n t, ¬ (k = 5 ∨ k = 6) → depN (ndK k n t) = 0 := fun k n t hk => by unfold ndK; rw [depN_mk, if_neg hk]
    cases h7 : isP ts 7 s with
    | true => exact leaf _ .null (d0 1 0 [] (by omega))
    | false =>
      cases h8 : isP ts 8 s with
      | true => exact leaf _ .tru (d0 2 1 [] (by omega))
      | false =>
        cases h9 : isP ts 9 s with
        | true => exact leaf _ .fls (d0 2 0 [] (by omega))
        | false =>
          cases h10 : isP ts 10 s with
          | true =>
            have := (hts s.i).1 (isP_spec h10).2.2
            exact leaf _ (.num _ this.1 this.2) (d0 3 _ [] (by omega))
          | false =>
            cases h11 : isP ts 11 s with
            | true => exact leaf _ (.str _ ((hts s.i).2 (isP_spec h11).2.2)) (d0 4 0 _ (by omega))
            | false =>
              simp only [h7, h8, h9, h10, h11, cond_false] at he
              simp only [cond_false]
              cases h3 : isP ts 3 s with
              | true =>
                have hi := (isP_spec h3).2.1
                simp only [h3, cond_true] at he
                simp only [cond_true]
                unfold lstB at he ⊢
                cases h4 : isP ts 4 (opnP ts (advP s)) with
                | true =>
                  obtain ⟨-, o6⟩ := opn_0 (isP_spec h4).1
                  simp only [advP_op] at o6
                  simp only [cond_true]
                  exact ⟨.list [] (fun d hd => by cases hd), by rw [depN_mk, if_pos (.inl rfl), depL]; omega⟩
                | false =>
                  simp only [h4, cond_false] at he
                  simp only [cond_false]
                  obtain ⟨-, o6⟩ := opn_0 (prs_e0 he)
                  simp only [advP_op] at o6
                  obtain ⟨vs, hd, hv⟩ := prs_good ts en hts f ((some (.inl []))) (opnP ts (advP s)) (by simp at hf ⊢; omega) ⟨by simp; omega, by simp; omega, by simp⟩ (by simp; omega) he
                  rw [hd, List.nil_append]
                  simp only [opnP_op, advP_op] at hv
                  refine ⟨.list vs (fun x hx => (hv x hx).1), ?_⟩
                  rw [depN_mk, if_pos (.inl rfl)]
                  have := depL_max vs (6 - (s.op + 1)) (fun x hx => by have := (hv x hx).2; omega)
                  omega
              | false =>
                cases h0 : isP ts 1 s with
                | true =>
                  have hi := (isP_spec h0).2.1
                  simp only [h3, h0, cond_true, cond_false] at he
                  simp only [cond_true, cond_false]
                  unfold objB at he ⊢
                  cases h4 : isP ts 2 (opnP ts (advP s)) with
                  | true =>
                    obtain ⟨-, o6⟩ := opn_0 (isP_spec h4).1
                    simp only [advP_op] at o6
                    simp only [cond_true]
                    exact ⟨.obj [] [] rfl (fun d hd => by cases hd) rfl (fun d hd => by cases hd), by rw [depN_mk, if_pos (.inr rfl), depL]; omega⟩
                  | false =>
                    simp only [h4, cond_false] at he
                    simp only [cond_false]
                    obtain ⟨-, o6⟩ := opn_0 (prs_e0 he)
                    simp only [advP_op] at o6
                    obtain ⟨ks, vs, hd, hl, hk, hdu, hv⟩ := prs_good ts en hts f ((some (.inr ([], [])))) (opnP ts (advP s)) (by simp at hf ⊢; omega) ⟨by simp; omega, by simp; omega, by simp⟩ (by simp; omega) he
                    rw [hd, List.nil_append, List.nil_append]
                    rw [List.nil_append] at hdu
                    simp only [opnP_op, advP_op] at hv
                    refine ⟨.obj ks vs hl hk (hdu rfl) (fun x hx => (hv x hx).1), ?_⟩
                    rw [depN_mk, if_pos (.inr rfl)]
                    have := depL_max vs (6 - (s.op + 1)) (fun x hx => by have := (hv x hx).2; omega)
                    omega
                | false =>
                  simp only [h3, h0, cond_false] at he
                  exact absurd he (fail_0 (by decide))
  | f + 1, (some (.inl acc)), s => fun hf h h6 he => by
    have he0 := prs_e0 he
    obtain ⟨h1, h2, h3⟩ := h
    simp only at h3 hf
    obtain ⟨a, b, c⟩ := prsF_ok ts en f none s (by simp; omega) ⟨h1, h2, trivial⟩
    simp only at c
    have hV := prs_good ts en hts f none s (by simp; omega) ⟨h1, h2, trivial⟩ h6
    rw [prsF] at he ⊢
    unfold lstE at he ⊢
    cases hc : isP ts 6 (prsF ts en f none s).2 with
    | true =>
      have h7 := (isP_spec hc).2.1
      obtain ⟨g1, g2⟩ := hV (isP_spec hc).1
      simp only [hc, cond_true] at he
      simp only [cond_true]
      obtain ⟨vs, hd, hv⟩ := prs_good ts en hts f ((some (.inl (acc ++ [(prsF ts en f none s).1])))) (advP (prsF ts en f none s).2) (by simp; omega) ⟨by simp; omega, by simp; omega, by simp; omega⟩ (by simp; omega) he
      simp only [advP_op, c] at hv
      refine ⟨(prsF ts en f none s).1 :: vs, by rw [hd, List.append_assoc]; rfl, fun x hx => ?_⟩
      rcases List.mem_cons.1 hx with rfl | hx
      · exact ⟨g1, g2⟩
      · exact hv x hx
    | false =>
      simp only [hc, cond_false] at he
      simp only [cond_false]
      obtain ⟨g1, g2⟩ := hV (need_0 he)
      refine ⟨[(prsF ts en f none s).1], rfl, fun x hx => ?_⟩
      rw [List.mem_singleton.1 hx]
      exact ⟨g1, g2⟩
  | f + 1, (some (.inr (ks, vs))), s => fun hf h h6 he => by
    have he0 := prs_e0 he
    obtain ⟨h1, h2, h3⟩ := h
    simp only at h3 hf
    rw [prsF] at he ⊢
    unfold pairP at he ⊢
    cases h11 : isP ts 11 s with
    | false =>
      simp only [h11, cond_false] at he
      exfalso
      have h9 : (failP s 31 (atP ts en s)).e ≠ 0 := fail_0 (by decide)
      unfold objE at he
      simp only at he
      rw [isP_no ts 6 _ h9, cond_false] at he
      exact need_e ts en 2 _ h9 he
    | true =>
      have hi := (isP_spec h11).2.1
      have hq := (hts s.i).2 (isP_spec h11).2.2
      simp only [h11, cond_true] at he
      simp only [cond_true]
      have hni := needP_i ts en 5 (twcP ts en ks s) (by simp; omega)
      simp only [twcP_i] at hni
      obtain ⟨a, b, c⟩ := prsF_ok ts en f none (needP ts en 5 (twcP ts en ks s)) (by simp; omega) ⟨by omega, by simp; omega, trivial⟩
      simp only [needP_op, twcP_op] at c
      have hV := prs_good ts en hts f none (needP ts en 5 (twcP ts en ks s)) (by simp; omega) ⟨by omega, by simp; omega, trivial⟩ (by simp; omega)
      unfold objE at he ⊢
      simp only at he ⊢
      cases hc : isP ts 6 (prsF ts en f none (needP ts en 5 (twcP ts en ks s))).2 with
      | true =>
        have h7 := (isP_spec hc).2.1
        have hz := (isP_spec hc).1
        obtain ⟨-, hnk⟩ := twc_0 (need_0 (prs_e0 hz))
        obtain ⟨g1, g2⟩ := hV hz
        simp only [needP_op, twcP_op] at g2
        simp only [hc, cond_true] at he
        simp only [cond_true]
        obtain ⟨ks', vs', hd, hl, hk, hdu, hv⟩ := prs_good ts en hts f ((some (.inr ((ks ++ [(tkP ts s.i).text]), (vs ++ [(prsF ts en f none (needP ts en 5 (twcP ts en ks s))).1]))))) (advP (prsF ts en f none (needP ts en 5 (twcP ts en ks s))).2) (by simp; omega) ⟨by simp; omega, by simp; omega, by simp; omega⟩ (by simp; omega) he
        simp only [advP_op, c] at hv
        refine ⟨(tkP ts s.i).text :: ks', (prsF ts en f none (needP ts en 5 (twcP ts en ks s))).1 :: vs', by rw [hd, List.append_assoc, List.append_assoc]; rfl, by simp [hl], fun x hx => ?_, fun h0 => ?_, fun x hx => ?_⟩
        · rcases List.mem_cons.1 hx with rfl | hx
          · exact hq
          · exact hk x hx
        · have := hdu (dup_snoc ks _ h0 hnk)
          rwa [List.append_assoc] at this
        · rcases List.mem_cons.1 hx with rfl | hx
          · exact ⟨g1, g2⟩
          · exact hv x hx
      | false =>
        simp only [hc, cond_false] at he
        simp only [cond_false]
        have hz := need_0 he
        obtain ⟨-, hnk⟩ := twc_0 (need_0 (prs_e0 hz))
        obtain ⟨g1, g2⟩ := hV hz
        simp only [needP_op, twcP_op] at g2
        refine ⟨[(tkP ts s.i).text], [(prsF ts en f none (needP ts en 5 (twcP ts en ks s))).1], rfl, rfl, fun x hx => ?_, fun h0 => dup_snoc ks _ h0 hnk, fun x hx => ?_⟩
        · rw [List.mem_singleton.1 hx]; exact hq
        · rw [List.mem_singleton.1 hx]; exact ⟨g1, g2⟩
theorem read_good (l : List UInt8) (h : (prsA l).2.1 = 0) : Gd (prsA l).1 ∧ depN (prsA l).1 ≤ 6 := by
  unfold prsA at h ⊢
  split at h
  · rename_i hc
    rw [if_pos hc]
    unfold prsT at h ⊢
    split at h
    · rename_i he
      rw [if_pos he]
      have he1 : (prsF (cutL l) (l.length : Int) (2 * (cutL l).length + 1) none ps0).2.e = 0 := Classical.byContradiction fun h9 => by
        unfold endP at he
        rw [if_neg (fun h => h9 h.1)] at he
        exact h9 he
      have := prs_good (cutL l) (l.length : Int) (cut_good l hc) (2 * (cutL l).length + 1) none ps0 (by simp [ps0]) ⟨by simp [ps0], by simp [ps0], trivial⟩ (by simp [ps0]) he1
      exact ⟨this.1, this.2⟩
    · rename_i he; exact absurd h he
  · rename_i hc; exact absurd h hc
theorem gd_frmL0 : ∀ vs : List Nd, (∀ d ∈ vs, frmN d = true) → frmL vs = true
  | [], _ => rfl
  | d :: r, h => by rw [frmL, h d (by simp), gd_frmL0 r (fun x hx => h x (by simp [hx]))]; rfl
theorem gd_frm : ∀ d, Gd d → frmN d = true := fun d hd => by
  induction hd using Gd.rc with
  | null => rw [frmN_mk]; rfl
  | tru => rw [frmN_mk]; rfl
  | fls => rw [frmN_mk]; rfl
  | num n h0 h1 => rw [frmN_mk]; simp [frmL]; omega
  | str s h => rw [frmN_mk]; simp [frmL]
  | list vs h ih => rw [frmN_mk, gd_frmL0 vs ih]; simp
  | obj ks vs hl hk hd h ih => rw [frmN_mk, gd_frmL0 vs ih]; simp [hl]
theorem quE_nil : quE [] = 0 := by decide
theorem gd_plnL0 : ∀ vs : List Nd, (∀ d ∈ vs, plnN d = true) → plnL vs = true
  | [], _ => rfl
  | d :: r, h => by rw [plnL, h d (by simp), gd_plnL0 r (fun x hx => h x (by simp [hx]))]; rfl
theorem gd_pln : ∀ d, Gd d → plnN d = true := fun d hd => by
  induction hd using Gd.rc with
  | null => rw [plnN_mk, quE_nil]; simp [plnL]
  | tru => rw [plnN_mk, quE_nil]; simp [plnL]
  | fls => rw [plnN_mk, quE_nil]; simp [plnL]
  | num n h0 h1 => rw [plnN_mk, quE_nil]; simp [plnL]
  | str s h => rw [plnN_mk, h]; simp [plnL]
  | list vs h ih => rw [plnN_mk, gd_plnL0 vs ih, quE_nil]; simp
  | obj ks vs hl hk hd h ih => rw [plnN_mk, gd_plnL0 vs ih, quE_nil]; simp; exact hk
theorem gd_twcL0 : ∀ vs : List Nd, (∀ d ∈ vs, twcN d = false) → twcL vs = false
  | [], _ => rfl
  | d :: r, h => by rw [twcL, h d (by simp), gd_twcL0 r (fun x hx => h x (by simp [hx]))]; rfl
theorem gd_twc : ∀ d, Gd d → twcN d = false := fun d hd => by
  induction hd using Gd.rc with
  | null => rw [twcN_mk]; rfl
  | tru => rw [twcN_mk]; rfl
  | fls => rw [twcN_mk]; rfl
  | num n h0 h1 => rw [twcN_mk]; simp [twcL, dupK]
  | str s h => rw [twcN_mk]; simp [twcL, dupK]
  | list vs h ih => rw [twcN_mk, gd_twcL0 vs ih]; simp [dupK]
  | obj ks vs hl hk hd h ih => rw [twcN_mk, gd_twcL0 vs ih, hd]; rfl
theorem gd_prt (d : Nd) (h : Gd d) (hd : depN d ≤ 6) : prtE d = 0 ∧ prtS d = txtN d := by
  have e : prtE d = 0 := by
    unfold prtE
    rw [gd_frm d h, gd_pln d h, gd_twc d h, if_neg (by simp), if_neg (by simp), if_neg (by simp), if_neg (by omega)]
  exact ⟨e, by unfold prtS; rw [if_pos e]⟩
end Go.Proofs.YtalnbddkhojjbaaGreatDoor
