import Derived.Test.YtklbdhpnbjhgkaaGreatDoorQFra
namespace Go.Proofs.YtklbdhpnbjhgkaaGreatDoor
open Go.RowKit Go.Sort

/-! The document's own reader: its lists, as mathematics -/
theorem failS_no {e a : Nat} {S : Rs} (h : S.2.1 ≠ 0) : failS e a S = S := if_neg h
theorem numS_no {k : Nat} {b : List UInt8} {S : Rs} (h : S.2.1 ≠ 0) : numS k b S = (0, S) := by
  unfold numS takeS
  rw [if_neg h]
  have : ∀ m, numN (lB (List.replicate k 0)) 0 m = 0 := fun m => by
    induction m with
    | zero => rfl
    | succ m ih =>
      rw [numN, ih]
      have : lB (List.replicate k 0) (0 + m) = 0 := by unfold lB; rw [List.getElem?_replicate]; split <;> rfl
      rw [this]; simp
  rw [this]
theorem zeros_num (k m : Nat) : numN (lB (List.replicate k 0)) 0 m = 0 := by
  induction m with
  | zero => rfl
  | succ m ih =>
    rw [numN, ih]
    have : lB (List.replicate k 0) (0 + m) = 0 := by unfold lB; rw [List.getElem?_replicate]; split <;> rfl
    rw [this]; simp
theorem numS_short {k : Nat} {b : List UInt8} {i d : Nat} (h : b.length < i + k) : numS k b (i, 0, d) = (0, (i, 10, i)) := by
  unfold numS takeS
  rw [if_pos rfl, if_pos h, zeros_num]
theorem numS_ok {k : Nat} {b : List UInt8} {i d : Nat} (h : i + k ≤ b.length) : numS k b (i, 0, d) = (numN (lB b) i k, (i + k, 0, d)) := by
  unfold numS takeS
  rw [if_pos rfl, if_neg (by simp only; omega)]
  have : numN (lB ((b.drop i).take k)) 0 k = numN (lB b) i k := by
    have key : ∀ m, m ≤ k → numN (lB ((b.drop i).take k)) 0 m = numN (lB b) i m := fun m => by
      induction m with
      | zero => intro _; rfl
      | succ m ih =>
        intro hm
        rw [numN, numN, ih (by omega)]
        have : lB ((b.drop i).take k) (0 + m) = lB b (i + m) := by
          unfold lB
          rw [Nat.zero_add, List.getElem?_take_of_lt (by omega), List.getElem?_drop]
        rw [this]
    exact key k (Nat.le_refl _)
  rw [this]
def loopS {α : Type} (body : List α → Rs → α × Rs) : Nat → List α → Rs → List α × Rs
  | 0, l, S => (l, S)
  | m + 1, l, S => if S.2.1 = 0 then loopS body m (l ++ [(body l S).1]) (body l S).2 else (l, S)
def listS {α : Type} (body : List α → Rs → α × Rs) (b : List UInt8) (S : Rs) : List α × Rs := loopS body (numS 2 b S).1 [] (numS 2 b S).2
def bdF (b : List UInt8) (l : List Fd) (S : Rs) : Fd × Rs :=
  let p1 := numS 1 b S
  let S2 := if okK p1.1 = true then p1.2 else failS 13 S.1 p1.2
  let p3 := numS 2 b S2
  let S4 := if okA p3.1 = true then p3.2 else failS 13 (S.1 + 1) p3.2
  let f : Fd := ((p1.1 : Int), (p3.1 : Int))
  (f, if behO ltF l.getLast? f = true then S4 else failS 11 S.1 S4)
def bdI (b : List UInt8) (l : List Int) (S : Rs) : Int × Rs :=
  let p1 := numS 2 b S
  let S2 := if okS p1.1 = true then p1.2 else failS 13 S.1 p1.2
  ((p1.1 : Int), if behO ltI l.getLast? (p1.1 : Int) = true then S2 else failS 11 S.1 S2)
def dgL (l : List UInt8) : Dg := fun k => if k < 32 then lB l k else 0
def bdD (b : List UInt8) (l : List Dg) (S : Rs) : Dg × Rs :=
  let p1 := takeS 32 b S
  (dgL p1.1, if behO ltD l.getLast? (dgL p1.1) = true then p1.2 else failS 11 S.1 p1.2)
/-- A body that reads one, as rd does. -/
structure Bd {α : Type} (body : List α → Rs → α × Rs) (rd : RdT α) (lt : α → α → Bool) (b : List UInt8) : Prop where
  ok : ∀ l i d v j, rd b i = .ok (v, j) → body l (i, 0, d) = (v, if behO lt l.getLast? v = true then (j, 0, d) else (j, 11, i))
  err : ∀ l i d a cd, rd b i = .error (a, cd) → cd ≠ 0 ∧ ∃ v j, body l (i, 0, d) = (v, (j, cd, a))
theorem loopS_no {α : Type} {body : List α → Rs → α × Rs} {m : Nat} {l : List α} {S : Rs} (h : S.2.1 ≠ 0) : loopS body m l S = (l, S) := by
  cases m with
  | zero => rfl
  | succ m => rw [loopS, if_neg h]
/-- What the list leaves. -/
def LsOk {α : Type} (r : Except (Nat × Nat) (List α × Nat)) (d : Nat) (q : List α × Rs) : Prop := match r with
  | .ok (l, j) => q = (l, (j, 0, d))
  | .error (a, cd) => cd ≠ 0 ∧ q.2.2 = (cd, a)
theorem loopS_is {α : Type} {body : List α → Rs → α × Rs} {rd : RdT α} {lt : α → α → Bool} {b : List UInt8} (B : Bd body rd lt b) : ∀ (m : Nat) (l : List α) (i d : Nat), LsOk (rdL rd lt m l b i) d (loopS body m l (i, 0, d))
  | 0, l, i, d => rfl
  | m + 1, l, i, d => by
    rw [loopS, if_pos rfl]
    unfold rdL
    cases hr : rd b i with
    | error p =>
      obtain ⟨a, cd⟩ := p
      obtain ⟨hc, v, j, hb⟩ := B.err l i d a cd hr
      rw [hb]
      simp only
      rw [loopS_no (S := (j, cd, a)) hc]
      exact ⟨hc, rfl⟩
    | ok p =>
      obtain ⟨v, j⟩ := p
      rw [B.ok l i d v j hr]
      simp only
      cases hq : behO lt l.getLast? v
      · simp only [cond_false, Bool.false_eq_true, if_false]
        rw [loopS_no (S := (j, 11, i)) (by simp)]
        exact ⟨by simp, rfl⟩
      · simp only [cond_true, if_true]
        exact loopS_is B m (l ++ [v]) j d
theorem listS_is {α : Type} {body : List α → Rs → α × Rs} {rd : RdT α} {lt : α → α → Bool} {b : List UInt8} (B : Bd body rd lt b) (i d : Nat) : LsOk (rdC rd lt b i) d (listS body b (i, 0, d)) := by
  unfold listS rdC rdN
  by_cases h : b.length < i + 2
  · rw [numS_short h, if_pos h]
    exact ⟨by simp, rfl⟩
  · rw [numS_ok (by omega), if_neg h]
    simp only [okAny, cond_true]
    exact loopS_is B _ [] (i + 2) d
theorem listS_no {α : Type} {body : List α → Rs → α × Rs} {b : List UInt8} {S : Rs} (h : S.2.1 ≠ 0) : listS body b S = ([], S) := by
  unfold listS
  rw [numS_no h]
  rfl
theorem ltI_bd (b : List UInt8) : Bd (bdI b) rdS ltI b where
  ok l i d v j h := by
    unfold rdS at h
    split at h
    · cases h
    · rename_i q k hq
      injection h with h
      simp only [Prod.mk.injEq] at h
      obtain ⟨rfl, rfl⟩ := h
      obtain ⟨h1, h2, h3, h4⟩ := rdN_ok hq
      unfold bdI
      simp only [numS_ok (d := d) h1, h2, h3, h4, if_true]
      cases behO ltI l.getLast? (q : Int) <;> simp [failS]
  err l i d a cd h := by
    unfold rdS rdN at h
    by_cases h9 : b.length < i + 2
    · rw [if_pos h9] at h
      injection h with h
      simp only [Prod.mk.injEq] at h
      obtain ⟨rfl, rfl⟩ := h
      refine ⟨by simp, (bdI b l (i, 0, d)).1, i, Prod.ext rfl ?_⟩
      show (bdI b l (i, 0, d)).2 = _
      unfold bdI
      simp only [numS_short (d := d) h9]
      have e : ∀ x y : Nat, failS x y (i, 10, i) = (i, 10, i) := fun x y => failS_no (by simp)
      simp only [e, ite_self]
    · rw [if_neg h9] at h
      cases ho : okS (numN (lB b) i 2)
      · rw [ho] at h
        simp only [cond_false] at h
        injection h with h
        simp only [Prod.mk.injEq] at h
        obtain ⟨rfl, rfl⟩ := h
        refine ⟨by simp, (bdI b l (i, 0, d)).1, i + 2, Prod.ext rfl ?_⟩
        show (bdI b l (i, 0, d)).2 = _
        unfold bdI
        simp only [numS_ok (d := d) (show i + 2 ≤ b.length by omega), ho]
        have e1 : failS 13 i (i + 2, 0, d) = (i + 2, 13, i) := if_pos rfl
        have e2 : failS 11 i (i + 2, 13, i) = (i + 2, 13, i) := failS_no (by simp)
        simp only [Bool.false_eq_true, if_false, e1, e2, ite_self]
      · rw [ho] at h
        cases h
theorem dgL_take (b : List UInt8) (i : Nat) : dgL ((b.drop i).take 32) = dgAt b i := by
  funext k
  unfold dgL dgAt
  split
  · unfold lB
    rw [List.getElem?_take_of_lt (by assumption), List.getElem?_drop]
  · rfl
theorem ltD_bd (b : List UInt8) : Bd (bdD b) rdD ltD b where
  ok l i d v j h := by
    unfold rdD at h
    split at h
    · cases h
    · rename_i h9
      injection h with h
      simp only [Prod.mk.injEq] at h
      obtain ⟨rfl, rfl⟩ := h
      unfold bdD takeS
      simp only [if_true, if_neg h9, dgL_take]
      cases behO ltD l.getLast? (dgAt b i) <;> simp [failS]
  err l i d a cd h := by
    unfold rdD at h
    split at h
    · rename_i h9
      injection h with h
      simp only [Prod.mk.injEq] at h
      obtain ⟨rfl, rfl⟩ := h
      refine ⟨by simp, (bdD b l (i, 0, d)).1, i, Prod.ext rfl ?_⟩
      show (bdD b l (i, 0, d)).2 = _
      unfold bdD takeS
      simp only [if_true, if_pos h9]
      have e : ∀ x y : Nat, failS x y (i, 10, i) = (i, 10, i) := fun x y => failS_no (by simp)
      simp only [e, ite_self]
    · cases h
theorem ltF_bd (b : List UInt8) : Bd (bdF b) rdF ltF b where
  ok l i d v j h := by
    obtain ⟨k, a, rfl, h1, h2, rfl⟩ := rdF_ok h
    obtain ⟨a1, a2, a3, -⟩ := rdN_ok h1
    obtain ⟨b1, b2, b3, -⟩ := rdN_ok h2
    unfold bdF
    simp only [numS_ok (d := d) a1, a2, a3, if_true, numS_ok (d := d) b1, b2, b3]
    rw [show i + 1 + 2 = i + 3 by omega]
    cases behO ltF l.getLast? ((k : Int), (a : Int)) <;> simp [failS]
  err l i d a cd h := by
    unfold rdF at h
    by_cases h9 : b.length < i + 1
    · have e1 : rdN 1 okK b i = .error (i, 10) := by unfold rdN; rw [if_pos h9]
      rw [e1] at h
      injection h with h
      simp only [Prod.mk.injEq] at h
      obtain ⟨rfl, rfl⟩ := h
      refine ⟨by simp, (bdF b l (i, 0, d)).1, i, Prod.ext rfl ?_⟩
      show (bdF b l (i, 0, d)).2 = _
      unfold bdF
      simp only [numS_short (d := d) h9]
      have e : ∀ x y : Nat, failS x y (i, 10, i) = (i, 10, i) := fun x y => failS_no (by simp)
      have e0 : numS 2 b (i, 10, i) = (0, (i, 10, i)) := numS_no (by simp)
      simp only [e, ite_self, e0]
    · cases ho : okK (numN (lB b) i 1)
      · have e1 : rdN 1 okK b i = .error (i, 13) := by unfold rdN; rw [if_neg h9, ho]; rfl
        rw [e1] at h
        injection h with h
        simp only [Prod.mk.injEq] at h
        obtain ⟨rfl, rfl⟩ := h
        refine ⟨by simp, (bdF b l (i, 0, d)).1, i + 1, Prod.ext rfl ?_⟩
        show (bdF b l (i, 0, d)).2 = _
        unfold bdF
        have f1 : failS 13 i (i + 1, 0, d) = (i + 1, 13, i) := if_pos rfl
        have e : ∀ x y : Nat, failS x y (i + 1, 13, i) = (i + 1, 13, i) := fun x y => failS_no (by simp)
        have e0 : numS 2 b (i + 1, 13, i) = (0, (i + 1, 13, i)) := numS_no (by simp)
        simp only [numS_ok (d := d) (show i + 1 ≤ b.length by omega), ho, Bool.false_eq_true, if_false, f1, e0, e, ite_self]
      · have e1 : rdN 1 okK b i = .ok (numN (lB b) i 1, i + 1) := by unfold rdN; rw [if_neg h9, ho]; rfl
        rw [e1] at h
        simp only at h
        by_cases h8 : b.length < i + 1 + 2
        · have e2 : rdN 2 okA b (i + 1) = .error (i + 1, 10) := by unfold rdN; rw [if_pos h8]
          rw [e2] at h
          injection h with h
          simp only [Prod.mk.injEq] at h
          obtain ⟨rfl, rfl⟩ := h
          refine ⟨by simp, (bdF b l (i, 0, d)).1, i + 1, Prod.ext rfl ?_⟩
          show (bdF b l (i, 0, d)).2 = _
          unfold bdF
          have e : ∀ x y : Nat, failS x y (i + 1, 10, i + 1) = (i + 1, 10, i + 1) := fun x y => failS_no (by simp)
          simp only [numS_ok (d := d) (show i + 1 ≤ b.length by omega), ho, if_true, numS_short (d := d) h8, e, ite_self]
        · cases ho2 : okA (numN (lB b) (i + 1) 2)
          · have e2 : rdN 2 okA b (i + 1) = .error (i + 1, 13) := by unfold rdN; rw [if_neg h8, ho2]; rfl
            rw [e2] at h
            injection h with h
            simp only [Prod.mk.injEq] at h
            obtain ⟨rfl, rfl⟩ := h
            refine ⟨by simp, (bdF b l (i, 0, d)).1, i + 1 + 2, Prod.ext rfl ?_⟩
            show (bdF b l (i, 0, d)).2 = _
            unfold bdF
            have f1 : failS 13 (i + 1) (i + 1 + 2, 0, d) = (i + 1 + 2, 13, i + 1) := if_pos rfl
            have e : ∀ x y : Nat, failS x y (i + 1 + 2, 13, i + 1) = (i + 1 + 2, 13, i + 1) := fun x y => failS_no (by simp)
            simp only [numS_ok (d := d) (show i + 1 ≤ b.length by omega), ho, if_true, numS_ok (d := d) (show i + 1 + 2 ≤ b.length by omega), ho2, Bool.false_eq_true, if_false, f1, e, ite_self]
          · have e2 : rdN 2 okA b (i + 1) = .ok (numN (lB b) (i + 1) 2, i + 1 + 2) := by unfold rdN; rw [if_neg h8, ho2]; rfl
            rw [e2] at h
            cases h
end Go.Proofs.YtklbdhpnbjhgkaaGreatDoor
