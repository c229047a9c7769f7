import Derived.Test.YtddmmmfpdmejbaaGreatDoorQNum
namespace Go.Proofs.YtddmmmfpdmejbaaGreatDoor
open Go.RowKit

/-! The landed reader's mathematics: an element's step; what an error leaves; what is asked of a value and of all in it -/
def nxP (ts : List Tk) (en : Int) (i : Nat) : Tk := ts[i]?.getD ⟨0, en, 0, []⟩
def stZ (i op : Nat) : Ps := ⟨i, 0, 0, op⟩
def clK : Md → Int
  | none => 0
  | (some (.inl _)) => 4
  | (some (.inr (_, _))) => 2
def ndM : Md → Nd
  | none => ndZ
  | (some (.inl acc)) => .mk 5 0 [] [] acc
  | (some (.inr (ks, vs))) => .mk 6 0 [] ks vs
def elP (ts : List Tk) (en : Int) (f : Nat) : Md → Ps → Md × Ps
  | none, s => (none, s)
  | (some (.inl acc)), s => ((some (.inl (acc ++ [(prsF ts en f none s).1]))), (prsF ts en f none s).2)
  | (some (.inr (ks, vs))), s => ((some (.inr ((pairP ts en (prsF ts en f none) ks vs s).1, (pairP ts en (prsF ts en f none) ks vs s).2.1))), (pairP ts en (prsF ts en f none) ks vs s).2.2)
theorem elP_cl (ts : List Tk) (en : Int) (f : Nat) (m : Md) (s : Ps) : clK (elP ts en f m s).1 = clK m := by cases m using Md.cs <;> rfl
theorem prs_el (ts : List Tk) (en : Int) (f : Nat) (m : Md) (s : Ps) (hm : m ≠ none) : prsF ts en (f + 1) m s = bif isP ts 6 (elP ts en f m s).2 then prsF ts en f (elP ts en f m s).1 (advP (elP ts en f m s).2) else (ndM (elP ts en f m s).1, clsP (needP ts en (clK m) (elP ts en f m s).2)) := by
  cases m using Md.cs with
  | v => exact absurd rfl hm
  | l acc => rfl
  | o ks vs => rfl
theorem isP_bad {ts : List Tk} {k : Int} {s : Ps} (h : s.e ≠ 0) : isP ts k s = false := by
  unfold isP
  rw [decide_eq_false h, Bool.false_and]
theorem failP_bad {s : Ps} {e a : Int} (h : s.e ≠ 0) : failP s e a = s := by unfold failP; rw [if_neg h]
theorem needP_bad {ts : List Tk} {en k : Int} {s : Ps} (h : s.e ≠ 0) : needP ts en k s = s := by unfold needP; rw [isP_bad h, cond_false, failP_bad h]
theorem prs_bad {ts : List Tk} {en : Int} {f : Nat} {s : Ps} (h : s.e ≠ 0) : prsF ts en f none s = (ndZ, s) := by
  cases f with
  | zero => rfl
  | succ f => rw [prsF, if_pos h]
/-- An error in an element is the whole's. -/
theorem el_bad {ts : List Tk} {en : Int} {f : Nat} {m : Md} {s : Ps} (hm : m ≠ none) (h : (elP ts en f m s).2.e ≠ 0) : (prsF ts en (f + 1) m s).2.e = (elP ts en f m s).2.e ∧ (prsF ts en (f + 1) m s).2.bad = (elP ts en f m s).2.bad := by
  rw [prs_el ts en f m s hm, isP_bad h, cond_false, needP_bad h]
  exact ⟨rfl, rfl⟩
theorem isP_st {ts : List Tk} {en k : Int} {i op : Nat} (hk : k ≠ 0) : isP ts k (stZ i op) = decide ((nxP ts en i).kind = k) := by
  unfold isP stZ nxP tkP
  by_cases hi : i < ts.length
  · simp only [hi, decide_true, Bool.true_and]
    rw [List.getElem?_eq_getElem hi]
    rfl
  · simp only [hi, decide_false, Bool.false_and, Bool.and_false]
    rw [List.getElem?_eq_none (by omega), Option.getD_none]
    exact (decide_eq_false (fun h => hk h.symm)).symm
theorem atP_st {ts : List Tk} {en : Int} {i op : Nat} : atP ts en (stZ i op) = (nxP ts en i).at_ := by
  unfold atP stZ nxP tkP
  by_cases hi : i < ts.length
  · rw [if_pos hi, List.getElem?_eq_getElem hi]; rfl
  · rw [if_neg hi, List.getElem?_eq_none (by omega)]; rfl
theorem nx_lt {ts : List Tk} {en : Int} {i : Nat} (h : (nxP ts en i).kind ≠ 0) : i < ts.length := by
  apply Classical.byContradiction
  intro hi
  apply h
  unfold nxP
  rw [List.getElem?_eq_none (by omega)]
  rfl
theorem nx_tk {ts : List Tk} {en : Int} {i : Nat} (h : i < ts.length) : nxP ts en i = tkP ts i := by
  unfold nxP tkP
  rw [List.getElem?_eq_getElem h]
  rfl
theorem advL_st (i op : Nat) : advP (stZ i op) = stZ (i + 1) op := rfl
/-- A value that is a token alone. -/
def pln1 (t : Tk) : Option Nd :=
  if t.kind = 7 then some (ndK 1 0 []) else if t.kind = 8 then some (ndK 2 1 []) else if t.kind = 9 then some (ndK 2 0 []) else if t.kind = 10 then some (ndK 3 t.n []) else if t.kind = 11 then some (ndK 4 0 t.text) else none
theorem prs_plain {ts : List Tk} {en : Int} {f i op : Nat} {d : Nd} (h : pln1 (nxP ts en i) = some d) : prsF ts en (f + 1) none (stZ i op) = (d, stZ (i + 1) op) := by
  have hk : (nxP ts en i).kind ≠ 0 := by intro h0; unfold pln1 at h; rw [h0] at h; simp at h
  have hi := nx_lt hk
  rw [prsF, if_neg (by simp [stZ])]
  rw [isP_st (en := en) (by decide), isP_st (en := en) (by decide), isP_st (en := en) (by decide), isP_st (en := en) (by decide), isP_st (en := en) (by decide)]
  unfold pln1 at h
  have e1 : tkP ts (stZ i op).i = nxP ts en i := (nx_tk hi).symm
  rw [e1]
  by_cases h7 : (nxP ts en i).kind = 7
  · rw [if_pos h7] at h; cases h; rw [decide_eq_true h7]; rfl
  rw [if_neg h7] at h; rw [decide_eq_false h7, cond_false]
  by_cases h8 : (nxP ts en i).kind = 8
  · rw [if_pos h8] at h; cases h; rw [decide_eq_true h8]; rfl
  rw [if_neg h8] at h; rw [decide_eq_false h8, cond_false]
  by_cases h9 : (nxP ts en i).kind = 9
  · rw [if_pos h9] at h; cases h; rw [decide_eq_true h9]; rfl
  rw [if_neg h9] at h; rw [decide_eq_false h9, cond_false]
  by_cases h10 : (nxP ts en i).kind = 10
  · rw [if_pos h10] at h; cases h; rw [decide_eq_true h10]; rfl
  rw [if_neg h10] at h; rw [decide_eq_false h10, cond_false]
  by_cases h11 : (nxP ts en i).kind = 11
  · rw [if_pos h11] at h; cases h; rw [decide_eq_true h11]; rfl
  rw [if_neg h11] at h; cases h
theorem prs_none {ts : List Tk} {en : Int} {f i op : Nat} (h : pln1 (nxP ts en i) = none) (h3 : (nxP ts en i).kind ≠ 3) (h1 : (nxP ts en i).kind ≠ 1) : prsF ts en (f + 1) none (stZ i op) = (ndZ, ⟨i, 31, (nxP ts en i).at_, op⟩) := by
  rw [prsF, if_neg (by simp [stZ])]
  rw [isP_st (en := en) (by decide), isP_st (en := en) (by decide), isP_st (en := en) (by decide), isP_st (en := en) (by decide), isP_st (en := en) (by decide), isP_st (en := en) (by decide), isP_st (en := en) (by decide)]
  unfold pln1 at h
  split at h
  · cases h
  · rename_i h7
    split at h
    · cases h
    · rename_i h8
      split at h
      · cases h
      · rename_i h9
        split at h
        · cases h
        · rename_i h10
          split at h
          · cases h
          · rename_i h11
            rw [decide_eq_false h7, decide_eq_false h8, decide_eq_false h9, decide_eq_false h10, decide_eq_false h11, decide_eq_false h3, decide_eq_false h1, atP_st]
            rfl
/-- Behind the opening sign. -/
def mdB (k : Int) : Md := if k = 3 then (some (.inl [])) else (some (.inr ([], [])))
theorem prs_open {ts : List Tk} {en k : Int} {f i op : Nat} (hk : (nxP ts en i).kind = k) (h31 : k = 3 ∨ k = 1) : prsF ts en (f + 1) none (stZ i op) = bif isP ts (k + 1) (opnP ts (stZ (i + 1) op)) then (ndM (mdB k), clsP (advP (opnP ts (stZ (i + 1) op)))) else prsF ts en f (mdB k) (opnP ts (stZ (i + 1) op)) := by
  rw [prsF, if_neg (by simp [stZ])]
  rw [isP_st (en := en) (by decide), isP_st (en := en) (by decide), isP_st (en := en) (by decide), isP_st (en := en) (by decide), isP_st (en := en) (by decide), isP_st (en := en) (by decide), isP_st (en := en) (by decide), hk]
  rcases h31 with rfl | rfl
  · rfl
  · rfl
theorem opn_deep {ts : List Tk} {en : Int} {i : Nat} (hi : i < ts.length) : opnP ts (stZ (i + 1) 6) = ⟨i + 1, 32, (nxP ts en i).at_, 7⟩ := by
  unfold opnP
  rw [if_pos (by simp [stZ]), nx_tk hi]
  rfl
theorem opnL_st {ts : List Tk} {i op : Nat} (h : op < 6) : opnP ts (stZ i op) = stZ i (op + 1) := by
  unfold opnP
  rw [if_neg (by simp only [stZ]; omega)]
  rfl
/-- Too deep: the whole is. -/
theorem prs_deep {ts : List Tk} {en k : Int} {f i : Nat} (hk : (nxP ts en i).kind = k) (h31 : k = 3 ∨ k = 1) (hf : 1 ≤ f) : (prsF ts en (f + 1) none (stZ i 6)).2.e = 32 ∧ (prsF ts en (f + 1) none (stZ i 6)).2.bad = (nxP ts en i).at_ := by
  have hi : i < ts.length := nx_lt (en := en) (by rw [hk]; rcases h31 with rfl | rfl <;> decide)
  rw [prs_open hk h31, opn_deep (en := en) hi, isP_bad (show (32 : Int) ≠ 0 by decide), cond_false]
  obtain ⟨f, rfl⟩ : ∃ q, f = q + 1 := ⟨f - 1, by omega⟩
  have he : (elP ts en f (mdB k) ⟨i + 1, 32, (nxP ts en i).at_, 7⟩).2 = ⟨i + 1, 32, (nxP ts en i).at_, 7⟩ := by
    rcases h31 with rfl | rfl
    · show (prsF ts en f none _).2 = _
      rw [prs_bad (show (32 : Int) ≠ 0 by decide)]
    · show (pairP ts en _ [] [] _).2.2 = _
      unfold pairP
      rw [isP_bad (show (32 : Int) ≠ 0 by decide), cond_false]
      exact failP_bad (s := ⟨i + 1, 32, (nxP ts en i).at_, 7⟩) (e := 31) (a := atP ts en ⟨i + 1, 32, (nxP ts en i).at_, 7⟩) (show (32 : Int) ≠ 0 by decide)
  have := el_bad (ts := ts) (en := en) (f := f) (m := mdB k) (s := ⟨i + 1, 32, (nxP ts en i).at_, 7⟩) (by rcases h31 with rfl | rfl <;> (unfold mdB; simp)) (by rw [he]; exact (show (32 : Int) ≠ 0 by decide))
  rw [he] at this
  exact this
/-! An object's key -/
theorem pair_no {ts : List Tk} {en : Int} {V : Ps → Nd × Ps} {ks : List (List UInt8)} {vs : List Nd} {i op : Nat} (h : (nxP ts en i).kind ≠ 11) : (pairP ts en V ks vs (stZ i op)).2.2 = ⟨i, 31, (nxP ts en i).at_, op⟩ := by
  unfold pairP
  rw [isP_st (en := en) (by decide), decide_eq_false h, cond_false, atP_st]
  rfl
theorem pair_twice {ts : List Tk} {en : Int} {f : Nat} {ks : List (List UInt8)} {vs : List Nd} {i op : Nat} (h : (nxP ts en i).kind = 11) (h2 : (nxP ts en i).text ∈ ks) : (pairP ts en (prsF ts en f none) ks vs (stZ i op)).2.2 = ⟨i + 1, 33, (nxP ts en i).at_, op⟩ := by
  have hi : i < ts.length := nx_lt (en := en) (by rw [h]; decide)
  have e : twcP ts en ks (stZ i op) = ⟨i + 1, 33, (nxP ts en i).at_, op⟩ := by
    unfold twcP
    rw [show tkP ts (stZ i op).i = nxP ts en i from (nx_tk hi).symm, if_pos h2, atP_st]
    rfl
  unfold pairP
  rw [isP_st (en := en) (by decide), decide_eq_true h, cond_true, e, needP_bad (show (33 : Int) ≠ 0 by decide), prs_bad (show (33 : Int) ≠ 0 by decide)]
theorem pair_colon {ts : List Tk} {en : Int} {f : Nat} {ks : List (List UInt8)} {vs : List Nd} {i op : Nat} (h : (nxP ts en i).kind = 11) (h2 : (nxP ts en i).text ∉ ks) (h5 : (nxP ts en (i + 1)).kind ≠ 5) : (pairP ts en (prsF ts en f none) ks vs (stZ i op)).2.2 = ⟨i + 1, 31, (nxP ts en (i + 1)).at_, op⟩ := by
  have hi : i < ts.length := nx_lt (en := en) (by rw [h]; decide)
  have e : twcP ts en ks (stZ i op) = stZ (i + 1) op := by
    unfold twcP
    rw [show tkP ts (stZ i op).i = nxP ts en i from (nx_tk hi).symm, if_neg h2, advL_st]
  unfold pairP
  rw [isP_st (en := en) (by decide), decide_eq_true h, cond_true, e]
  unfold needP
  rw [isP_st (en := en) (by decide), decide_eq_false h5, cond_false, atP_st]
  have e2 : failP (stZ (i + 1) op) 31 (nxP ts en (i + 1)).at_ = ⟨i + 1, 31, (nxP ts en (i + 1)).at_, op⟩ := rfl
  rw [e2, prs_bad (show (31 : Int) ≠ 0 by decide)]
theorem pair_yes {ts : List Tk} {en : Int} {f : Nat} {ks : List (List UInt8)} {vs : List Nd} {i op : Nat} (h : (nxP ts en i).kind = 11) (h2 : (nxP ts en i).text ∉ ks) (h5 : (nxP ts en (i + 1)).kind = 5) : pairP ts en (prsF ts en f none) ks vs (stZ i op) = (ks ++ [(nxP ts en i).text], vs ++ [(prsF ts en f none (stZ (i + 2) op)).1], (prsF ts en f none (stZ (i + 2) op)).2) := by
  have hi : i < ts.length := nx_lt (en := en) (by rw [h]; decide)
  have e0 : tkP ts (stZ i op).i = nxP ts en i := (nx_tk hi).symm
  have e : twcP ts en ks (stZ i op) = stZ (i + 1) op := by
    unfold twcP
    rw [e0, if_neg h2, advL_st]
  have e1 : needP ts en 5 (stZ (i + 1) op) = stZ (i + 2) op := by
    unfold needP
    rw [isP_st (en := en) (by decide), decide_eq_true h5, cond_true, advL_st]
  unfold pairP
  rw [isP_st (en := en) (by decide), decide_eq_true h, cond_true, e, e1, e0]
end Go.Proofs.YtddmmmfpdmejbaaGreatDoor
namespace Go.Proofs.YtddmmmfpdmejbaaGreatDoor
open Go.RowKit

/-! What holds asks, of a value and of all in it -/
def anyN (p : Nd → Bool) : Nd → Bool
  | .mk k n s ks vs => p (.mk k n s ks vs) || (vs.map fun d => anyN p d).any id
def anyL (p : Nd → Bool) : List Nd → Bool
  | [] => false
  | d :: r => anyN p d || anyL p r
theorem anyL_mpp (p : Nd → Bool) : ∀ l : List Nd, (l.map fun d => anyN p d).any id = anyL p l
  | [] => rfl
  | d :: r => by rw [List.map_cons, List.any_cons, anyL_mpp p r, anyL]; rfl
theorem anyN_mk (p : Nd → Bool) (k n : Int) (s : List UInt8) (ks : List (List UInt8)) (vs : List Nd) : anyN p (.mk k n s ks vs) = (p (.mk k n s ks vs) || anyL p vs) := by rw [anyN, anyL_mpp]
theorem anyL_any (p : Nd → Bool) : ∀ vs : List Nd, anyL p vs = vs.any (anyN p)
  | [] => rfl
  | d :: r => by rw [anyL, List.any_cons, anyL_any p r]
def fmlP : Nd → Bool
  | .mk k n _ ks vs => !(decide (1 ≤ k ∧ k ≤ 6) && !decide (k = 3 ∧ n < 0) && !decide (k = 6 ∧ ks.length ≠ vs.length))
def strP : Nd → Bool
  | .mk _ _ s ks _ => decide (quE s ≠ 0) || ks.any (fun t => decide (quE t ≠ 0))
def dupP : Nd → Bool
  | .mk _ _ _ ks _ => dupK ks
theorem frmL_all : ∀ vs : List Nd, frmL vs = vs.all frmN
  | [] => rfl
  | d :: r => by rw [frmL, List.all_cons, frmL_all r]
theorem plnL_all : ∀ vs : List Nd, plnL vs = vs.all plnN
  | [] => rfl
  | d :: r => by rw [plnL, List.all_cons, plnL_all r]
theorem twcL_any : ∀ vs : List Nd, twcL vs = vs.any twcN
  | [] => rfl
  | d :: r => by rw [twcL, List.any_cons, twcL_any r]
theorem any_not {f g : Nd → Bool} : ∀ vs : List Nd, (∀ d ∈ vs, f d = !g d) → vs.any f = !vs.all g
  | [], _ => rfl
  | d :: r, h => by
    rw [List.any_cons, List.all_cons, h d (by simp), any_not r (fun x hx => h x (by simp [hx])), Bool.not_and]
theorem any_eq {f g : Nd → Bool} : ∀ vs : List Nd, (∀ d ∈ vs, f d = g d) → vs.any f = vs.any g
  | [], _ => rfl
  | d :: r, h => by rw [List.any_cons, List.any_cons, h d (by simp), any_eq r (fun x hx => h x (by simp [hx]))]
theorem any_frm (d : Nd) : anyN fmlP d = !frmN d := by
  refine Nd.ind (P := fun d => anyN fmlP d = !frmN d) ?_ d
  intro k n s ks vs ih
  rw [anyN_mk, anyL_any, any_not vs ih, frmN_mk, frmL_all, fmlP]
  rw [← Bool.not_and]
theorem any_pln (d : Nd) : anyN strP d = !plnN d := by
  refine Nd.ind (P := fun d => anyN strP d = !plnN d) ?_ d
  intro k n s ks vs ih
  rw [anyN_mk, anyL_any, any_not vs ih, plnN_mk, plnL_all, strP, Bool.not_and, Bool.not_and]
  congr 2
  · simp
  · induction ks with
    | nil => rfl
    | cons a r ih => rw [List.any_cons, List.all_cons, ih, Bool.not_and]; congr 1; simp
theorem any_twc (d : Nd) : anyN dupP d = twcN d := by
  refine Nd.ind (P := fun d => anyN dupP d = twcN d) ?_ d
  intro k n s ks vs ih
  rw [anyN_mk, anyL_any, any_eq vs ih, twcN_mk, twcL_any, dupP]
/-! How deep -/
theorem depL_any : ∀ (vs : List Nd) (n : Nat), decide (n < depL vs) = vs.any (fun d => decide (n < depN d))
  | [], n => by rw [depL]; simp
  | d :: r, n => by
    rw [depL, List.any_cons, ← depL_any r n]
    by_cases h1 : n < depN d
    · rw [decide_eq_true h1, Bool.true_or]; exact decide_eq_true (by omega)
    · rw [decide_eq_false h1, Bool.false_or]; exact decide_eq_decide.2 (by omega)
theorem depL_mem : ∀ (vs : List Nd) (d : Nd), d ∈ vs → depN d ≤ depL vs
  | a :: r, d, h => by
    rw [depL]
    rcases List.mem_cons.1 h with rfl | h
    · omega
    · have := depL_mem r d h; omega
/-! A key twice -/
theorem dup_nodup : ∀ l : List (List UInt8), dupK l = decide (¬ l.Nodup)
  | [] => by simp [dupK]
  | a :: r => by
    rw [dupK, dup_nodup r]
    by_cases h : a ∈ r
    · simp [h]
    · simp [h]
end Go.Proofs.YtddmmmfpdmejbaaGreatDoor
