
import Derived.Test.YtafbkdpheneceaaHeM
namespace Go.Proofs.Ytafbkdpheneceaa

/-! Free ranges in any order: what they say of an extent -/
def Apart8 (p q : Pr) : Prop := p.2 < q.1 ∨ q.2 < p.1
theorem apart8_symm {p q : Pr} (h : Apart8 p q) : Apart8 q p := h.symm
structure Fr (st : XSt) (l : List Pr) : Prop where
  bnd : ∀ p ∈ l, (st.fr : Int) ≤ p.1 ∧ p.1 < p.2 ∧ p.2 ≤ (st.hi : Int)
  apart : l.Pairwise Apart8
  cov : ∀ x : Nat, st.fr ≤ x → x < st.hi → (st.f x = false ↔ ∃ p ∈ l, p.1 ≤ (x : Int) ∧ (x : Int) < p.2)
theorem pairwise_two {R : Pr → Pr → Prop} (hs : ∀ {p q}, R p q → R q p) : ∀ {l : List Pr}, l.Pairwise R → ∀ p ∈ l, ∀ q ∈ l, p = q ∨ R p q
  | [], _, p, hp, _, _ => by cases hp
  | a :: r, h, p, hp, q, hq => by
    rw [List.pairwise_cons] at h
    rcases List.mem_cons.1 hp with e1 | hp'
    · rcases List.mem_cons.1 hq with e2 | hq'
      · exact .inl (e1.trans e2.symm)
      · rw [e1]; exact .inr (h.1 q hq')
    · rcases List.mem_cons.1 hq with e2 | hq'
      · rw [e2]; exact .inr (hs (h.1 p hp'))
      · exact pairwise_two hs h.2 p hp' q hq'
theorem Fr.perm {st : XSt} {l l' : List Pr} (h : Fr st l) (hp : l'.Perm l) : Fr st l' :=
  ⟨fun p hm => h.bnd p (hp.mem_iff.1 hm), (hp.pairwise_iff (fun {_ _} => apart8_symm)).2 h.apart, fun x h1 h2 => (h.cov x h1 h2).trans ⟨fun ⟨p, q, r⟩ => ⟨p, hp.mem_iff.2 q, r⟩, fun ⟨p, q, r⟩ => ⟨p, hp.mem_iff.1 q, r⟩⟩⟩
def gv (p : Pr) : List Pr := if p.1 < p.2 then [p] else []
theorem mem_gv {p q : Pr} : q ∈ gv p ↔ q = p ∧ p.1 < p.2 := by
  unfold gv
  split <;> simp [*]
theorem Fr.new (a b : Nat) : Fr ⟨a, b, fun _ => false⟩ (gv ((a : Int), (b : Int))) where
  bnd p hp := by
    obtain ⟨rfl, h⟩ := mem_gv.1 hp
    simp only at h ⊢; omega
  apart := by unfold gv; split <;> simp
  cov x h1 h2 := ⟨fun _ => ⟨_, mem_gv.2 ⟨rfl, by simp only at h1 h2 ⊢; omega⟩, by simp only at h1 h2 ⊢; omega, by simp only at h1 h2 ⊢; omega⟩, fun _ => rfl⟩
theorem Fr.all_free {st : XSt} {l : List Pr} (h : Fr st l) (a n : Int) (hn : 0 < n) (ha : (st.fr : Int) ≤ a) (hb : a + n ≤ (st.hi : Int)) :
    allU st.f a.toNat false n.toNat = true ↔ ∃ s ∈ l, s.1 ≤ a ∧ a + n ≤ s.2 := by
  rw [allU_iff]
  constructor
  · intro H
    have h0 := (h.cov a.toNat (by omega) (by omega)).1 (by have := H 0 (by omega); simpa using this)
    obtain ⟨p, hp, h1, h2⟩ := h0
    refine ⟨p, hp, by omega, ?_⟩
    have : ∀ k : Nat, (k : Int) < n → a + k < p.2 := by
      intro k
      induction k with
      | zero => intro _; omega
      | succ k ih =>
        intro hk
        have hik := ih (by omega)
        obtain ⟨q, hq, q1, q2⟩ := (h.cov (a.toNat + (k + 1)) (by omega) (by omega)).1 (H (k + 1) (by omega))
        rcases pairwise_two apart8_symm h.apart p hp q hq with rfl | hA | hA
        · omega
        · omega
        · omega
    have := this (n.toNat - 1) (by omega)
    omega
  · rintro ⟨s, hs, h1, h2⟩ i hi
    exact (h.cov (a.toNat + i) (by omega) (by have := h.bnd s hs; omega)).2 ⟨s, hs, by omega, by omega⟩
theorem Fr.all_taken {st : XSt} {l : List Pr} (h : Fr st l) (a n : Int) (hn : 0 < n) (ha : (st.fr : Int) ≤ a) (hb : a + n ≤ (st.hi : Int)) :
    allU st.f a.toNat true n.toNat = true ↔ ∀ s ∈ l, ¬ (a < s.2 ∧ s.1 < a + n) := by
  rw [allU_iff]
  constructor
  · rintro H s hs ⟨h1, h2⟩
    have hb := h.bnd s hs
    by_cases h3 : s.1 ≤ a
    · have := H 0 (by omega)
      rw [(h.cov (a.toNat + 0) (by omega) (by omega)).2 ⟨s, hs, by omega, by omega⟩] at this
      cases this
    · have := H (s.1.toNat - a.toNat) (by omega)
      rw [(h.cov (a.toNat + (s.1.toNat - a.toNat)) (by omega) (by omega)).2 ⟨s, hs, by omega, by omega⟩] at this
      cases this
  · intro H i hi
    cases hf : st.f (a.toNat + i) with
    | true => rfl
    | false =>
      exfalso
      obtain ⟨s, hs, h1, h2⟩ := (h.cov (a.toNat + i) (by omega) (by omega)).1 hf
      exact H s hs ⟨by omega, by omega⟩
theorem xTurn_eq {st : XSt} {a n : Int} {b : Bool} (h : xOk st a n b = true) : xTurn st a n b = { st with f := fun i => if a ≤ (i : Int) ∧ (i : Int) < a + n then b else st.f i } := by rw [xTurn, if_pos h]
theorem xTurnNo {st : XSt} {a n : Int} {b : Bool} (h : xOk st a n b = false) : xTurn st a n b = st := by rw [xTurn, if_neg (by rw [h]; simp)]
theorem xTurn_0 {st : XSt} {a : Int} {b : Bool} : xOk st a 0 b = true ∧ xTurn st a 0 b = st := by
  have h : xOk st a 0 b = true := by simp [xOk]
  refine ⟨h, ?_⟩
  rw [xTurn_eq h]
  cases st
  simp only [XSt.mk.injEq, true_and]
  funext i
  rw [if_neg (by omega)]
theorem Fr.take {st : XSt} {l r : List Pr} (h : Fr st l) (s : Pr) (hp : (s :: r).Perm l) (a n : Int) (hn : 0 < n) (h1 : s.1 ≤ a) (h2 : a + n ≤ s.2) :
    Fr { st with f := fun i => if a ≤ (i : Int) ∧ (i : Int) < a + n then true else st.f i } (gv (a + n, s.2) ++ (gv (s.1, a) ++ r)) := by
  have h' := h.perm hp
  have hb := h'.bnd s (List.mem_cons_self ..)
  have hA := List.pairwise_cons.1 h'.apart
  have hmem : ∀ q, q ∈ gv (a + n, s.2) ++ (gv (s.1, a) ++ r) ↔ (q = (a + n, s.2) ∧ a + n < s.2) ∨ (q = (s.1, a) ∧ s.1 < a) ∨ q ∈ r := fun q => by
    rw [List.mem_append, List.mem_append, mem_gv, mem_gv]
  refine ⟨fun p hp => ?_, ?_, fun x x1 x2 => ?_⟩
  · rcases (hmem p).1 hp with ⟨rfl, h⟩ | ⟨rfl, h⟩ | h
    · simp only; omega
    · simp only; omega
    · exact h'.bnd p (List.mem_cons_of_mem _ h)
  · rw [List.pairwise_append, List.pairwise_append]
    refine ⟨by unfold gv; split <;> simp, ⟨by unfold gv; split <;> simp, hA.2, fun p hp q hq => ?_⟩, fun p hp q hq => ?_⟩
    · obtain ⟨rfl, h⟩ := mem_gv.1 hp
      have := hA.1 q hq
      have := h'.bnd q (List.mem_cons_of_mem _ hq)
      unfold Apart8 at *
      simp only at *; omega
    · obtain ⟨rfl, h⟩ := mem_gv.1 hp
      rcases List.mem_append.1 hq with hq | hq
      · obtain ⟨rfl, h⟩ := mem_gv.1 hq
        unfold Apart8 at *
        simp only at *; omega
      · have := hA.1 q hq
        have := h'.bnd q (List.mem_cons_of_mem _ hq)
        unfold Apart8 at *
        simp only at *; omega
  · have hc := h'.cov x x1 x2
    show (if a ≤ (x : Int) ∧ (x : Int) < a + n then true else st.f x) = false ↔ _
    by_cases hx : a ≤ (x : Int) ∧ (x : Int) < a + n
    · rw [if_pos hx]
      refine ⟨fun e => (by cases e), ?_⟩
      rintro ⟨q, hq, q1, q2⟩
      rcases (hmem q).1 hq with ⟨rfl, h⟩ | ⟨rfl, h⟩ | h
      · simp only at q1 q2; omega
      · simp only at q1 q2; omega
      · have := hA.1 q h
        unfold Apart8 at this
        omega
    · rw [if_neg hx, hc]
      constructor
      · rintro ⟨q, hq, q1, q2⟩
        rcases List.mem_cons.1 hq with rfl | hq
        · by_cases hlo : (x : Int) < a
          · exact ⟨(q.1, a), (hmem _).2 (.inr (.inl ⟨rfl, by omega⟩)), by simp only; omega, by simp only; omega⟩
          · exact ⟨(a + n, q.2), (hmem _).2 (.inl ⟨rfl, by omega⟩), by simp only; omega, by simp only; omega⟩
        · exact ⟨q, (hmem _).2 (.inr (.inr hq)), q1, q2⟩
      · rintro ⟨q, hq, q1, q2⟩
        rcases (hmem q).1 hq with ⟨rfl, h⟩ | ⟨rfl, h⟩ | h
        · exact ⟨s, List.mem_cons_self .., by simp only at q1; omega, q2⟩
        · exact ⟨s, List.mem_cons_self .., q1, by simp only at q2; omega⟩
        · exact ⟨q, List.mem_cons_of_mem _ h, q1, q2⟩
/-- A range s that becomes free, beside the free ones l. -/
structure Jn (st : XSt) (s : Pr) (l : List Pr) : Prop where
  bnd : ∀ p ∈ l, (st.fr : Int) ≤ p.1 ∧ p.1 < p.2 ∧ p.2 ≤ (st.hi : Int)
  own : (st.fr : Int) ≤ s.1 ∧ s.1 < s.2 ∧ s.2 ≤ (st.hi : Int)
  apart : l.Pairwise Apart8
  off : ∀ p ∈ l, p.2 ≤ s.1 ∨ s.2 ≤ p.1
  cov : ∀ x : Nat, st.fr ≤ x → x < st.hi → (st.f x = false ↔ (s.1 ≤ (x : Int) ∧ (x : Int) < s.2) ∨ ∃ p ∈ l, p.1 ≤ (x : Int) ∧ (x : Int) < p.2)
theorem Fr.jn {st : XSt} {l : List Pr} (h : Fr st l) (a n : Int) (hn : 0 < n) (ha : (st.fr : Int) ≤ a) (hb : a + n ≤ (st.hi : Int)) (hno : ∀ s ∈ l, ¬ (a < s.2 ∧ s.1 < a + n)) :
    Jn { st with f := fun i => if a ≤ (i : Int) ∧ (i : Int) < a + n then false else st.f i } (a, a + n) l where
  bnd := h.bnd
  own := ⟨ha, by simp only; omega, hb⟩
  apart := h.apart
  off p hp := by have := hno p hp; have := h.bnd p hp; simp only; omega
  cov x h1 h2 := by
    show (if a ≤ (x : Int) ∧ (x : Int) < a + n then false else st.f x) = false ↔ _
    by_cases hx : a ≤ (x : Int) ∧ (x : Int) < a + n
    · rw [if_pos hx]; exact ⟨fun _ => .inl hx, fun _ => rfl⟩
    · rw [if_neg hx, h.cov x h1 h2]
      exact ⟨.inr, fun e => e.elim (fun e => absurd e hx) id⟩
theorem Jn.step {st : XSt} {s o : Pr} {l r : List Pr} (h : Jn st s l) (hp : (o :: r).Perm l) (ht : o.2 = s.1 ∨ s.2 = o.1) : Jn st (min s.1 o.1, max s.2 o.2) r := by
  have hm : ∀ q, q ∈ l ↔ q = o ∨ q ∈ r := fun q => by rw [← hp.mem_iff, List.mem_cons]
  have hA := List.pairwise_cons.1 ((hp.pairwise_iff (fun {_ _} => apart8_symm)).2 h.apart)
  have hb := h.bnd o ((hm o).2 (.inl rfl))
  have ho := h.own
  refine ⟨fun p hp => h.bnd p ((hm p).2 (.inr hp)), by simp only; omega, hA.2, fun p hp => ?_, fun x h1 h2 => ?_⟩
  · have g1 := hA.1 p hp
    have g2 := h.off p ((hm p).2 (.inr hp))
    have g3 := h.bnd p ((hm p).2 (.inr hp))
    unfold Apart8 at g1
    simp only; omega
  · rw [h.cov x h1 h2]
    constructor
    · rintro (e | ⟨q, hq, q1, q2⟩)
      · exact .inl (by simp only; omega)
      · rcases (hm q).1 hq with rfl | hq
        · exact .inl (by simp only; omega)
        · exact .inr ⟨q, hq, q1, q2⟩
    · rintro (e | ⟨q, hq, q1, q2⟩)
      · simp only at e
        by_cases e2 : s.1 ≤ (x : Int) ∧ (x : Int) < s.2
        · exact .inl e2
        · exact .inr ⟨o, (hm o).2 (.inl rfl), by omega, by omega⟩
      · exact .inr ⟨q, (hm q).2 (.inr hq), q1, q2⟩
theorem Jn.done {st : XSt} {s : Pr} {l : List Pr} (h : Jn st s l) (hno : ∀ p ∈ l, ¬ (p.2 = s.1 ∨ s.2 = p.1)) : Fr st (s :: l) where
  bnd p hp := by
    rcases List.mem_cons.1 hp with rfl | hp
    · exact h.own
    · exact h.bnd p hp
  apart := List.pairwise_cons.2 ⟨fun p hp => by
    have g1 := h.off p hp
    have g2 := hno p hp
    unfold Apart8; omega, h.apart⟩
  cov x h1 h2 := by
    rw [h.cov x h1 h2]
    constructor
    · rintro (e | ⟨q, hq, e⟩)
      · exact ⟨s, List.mem_cons_self .., e⟩
      · exact ⟨q, List.mem_cons_of_mem _ hq, e⟩
    · rintro ⟨q, hq, e⟩
      rcases List.mem_cons.1 hq with rfl | hq
      · exact .inl e
      · exact .inr ⟨q, hq, e⟩
/-! Risen, they are the ranges -/
def tr (p : Pr) : Nat × Nat := (p.1.toNat, (p.2 - p.1).toNat)
def Srt (l : List Pr) : Prop := l.Pairwise fun p q => p.1 ≤ q.1
theorem srt_rises {z : Nat} : ∀ (ys : List Pr) (a : Nat), (∀ p ∈ ys, (a : Int) ≤ p.1 ∧ p.1 < p.2 ∧ p.2 ≤ (z : Int)) → ys.Pairwise Apart8 → Srt ys → Rises z a (ys.map tr)
  | [], _, _, _, _ => trivial
  | p :: r, a, hb, hA, hS => by
    have hp := hb p (List.mem_cons_self ..)
    rw [List.pairwise_cons] at hA
    have hS' := List.pairwise_cons.1 hS
    refine ⟨show a ≤ p.1.toNat by omega, show 1 ≤ (p.2 - p.1).toNat by omega, show p.1.toNat + (p.2 - p.1).toNat ≤ z by omega, srt_rises r _ (fun q hq => ?_) hA.2 hS'.2⟩
    have g1 := hA.1 q hq
    have g2 := hS'.1 q hq
    have g3 := hb q (List.mem_cons_of_mem _ hq)
    unfold Apart8 at g1
    omega
theorem isIn_tr (x : Nat) (ys : List Pr) (h : ∀ p ∈ ys, 0 ≤ p.1 ∧ p.1 < p.2) : isIn x (ys.map tr) = true ↔ ∃ p ∈ ys, p.1 ≤ (x : Int) ∧ (x : Int) < p.2 := by
  unfold isIn
  rw [List.any_eq_true]
  simp only [List.mem_map, decide_eq_true_eq]
  constructor
  · rintro ⟨_, ⟨p, hp, rfl⟩, h1⟩
    have := h p hp
    unfold tr at h1
    exact ⟨p, hp, by simp only at h1; omega, by simp only at h1; omega⟩
  · rintro ⟨p, hp, h1, h2⟩
    have := h p hp
    exact ⟨_, ⟨p, hp, rfl⟩, by unfold tr; simp only; omega⟩
theorem Fr.runs {st : XSt} {l ys : List Pr} (h : Fr st l) (hle : st.fr ≤ st.hi) (hp : ys.Perm l) (hS : Srt ys) : ys.map tr = xRuns st := by
  have h' := h.perm hp
  refine runs_unique st.f st.fr (st.hi - st.fr) _ (srt_rises ys _ (fun p hm => ?_) h'.apart hS) fun x h1 h2 => ?_
  · have := h'.bnd p hm; omega
  · rw [isIn_tr x ys (fun p hm => by have := h'.bnd p hm; omega), h'.cov x h1 (by omega)]
theorem srt_ex (l : List Pr) : ∃ ys, ys.Perm l ∧ Srt ys := by
  refine ⟨l.mergeSort (fun p q => decide (p.1 ≤ q.1)), List.mergeSort_perm _ _, ?_⟩
  have := List.pairwise_mergeSort (le := fun p q : Pr => decide (p.1 ≤ q.1)) (fun a b c h1 h2 => by simp only [decide_eq_true_eq] at *; omega) (fun a b => by simp only [Bool.or_eq_true, decide_eq_true_eq]; omega) l
  exact this.imp (fun h => by simpa using h)
def sumP : List Pr → Int
  | [] => 0
  | p :: r => (p.2 - p.1) + sumP r
theorem sumP_perm {l l' : List Pr} (h : l.Perm l') : sumP l = sumP l' := by
  induction h with
  | nil => rfl
  | cons x _ ih => simp [sumP, ih]
  | swap x y l => simp only [sumP]; omega
  | trans _ _ h1 h2 => exact h1.trans h2
theorem sumP_tr : ∀ (ys : List Pr), (∀ p ∈ ys, 0 ≤ p.1 ∧ p.1 < p.2) → ((sumR (ys.map tr) : Nat) : Int) = sumP ys
  | [], _ => rfl
  | p :: r, h => by
    have h1 := h p (List.mem_cons_self ..)
    have ih := sumP_tr r (fun q hq => h q (List.mem_cons_of_mem _ hq))
    rw [List.map_cons, sumR, sumP, ← ih]
    unfold tr; simp only; omega
theorem Fr.left {st : XSt} {l : List Pr} (h : Fr st l) (hle : st.fr ≤ st.hi) : ((xLeft st : Nat) : Int) = sumP l := by
  obtain ⟨ys, hp, hS⟩ := srt_ex l
  have e := h.runs hle hp hS
  have h' := h.perm hp
  rw [← sumP_perm hp, ← sumP_tr ys (fun p hm => by have := h'.bnd p hm; omega), e]
  unfold xLeft xRuns
  rw [runs_sum]
theorem Fr.len {st : XSt} {l : List Pr} (h : Fr st l) (hle : st.fr ≤ st.hi) (h1 : st.hi ≤ 1024) : l.length ≤ 1024 := by
  obtain ⟨ys, hp, hS⟩ := srt_ex l
  have e := h.runs hle hp hS
  have h2 := rises_len (runs_rises st.f (st.hi - st.fr) st.fr)
  have h3 : (ys.map tr).length = l.length := by rw [List.length_map]; exact hp.length_eq
  unfold xRuns at e
  rw [e] at h3
  rcases h2 with h2 | h2
  · rw [h2] at h3; simp at h3; omega
  · omega
theorem rI_tr : ∀ (ys : List Pr), (∀ p ∈ ys, 0 ≤ p.1 ∧ p.1 < p.2) → (ys.map tr).map (fun p => ((p.1 : Int), (p.2 : Int))) = ys.map fun p => (p.1, p.2 - p.1)
  | [], _ => rfl
  | p :: r, h => by
    have h1 := h p (List.mem_cons_self ..)
    have ih := rI_tr r (fun q hq => h q (List.mem_cons_of_mem _ hq))
    rw [List.map_cons, List.map_cons, List.map_cons, ih]
    congr 1
    unfold tr
    simp only [Prod.mk.injEq]
    omega
theorem sumP_app : ∀ l r : List Pr, sumP (l ++ r) = sumP l + sumP r
  | [], r => by simp [sumP]
  | p :: l, r => by simp only [List.cons_append, sumP, sumP_app l r]; omega
theorem sumP_take (l : List Pr) (k : Nat) (p : Pr) (h : l[k]? = some p) : sumP (l.take (k + 1)) = sumP (l.take k) + (p.2 - p.1) := by
  rw [take_snoc l k p h, sumP_app]
  simp [sumP]
theorem sumP_pos : ∀ (l : List Pr), (∀ p ∈ l, p.1 < p.2) → 0 ≤ sumP l
  | [], _ => by simp [sumP]
  | p :: l, h => by
    have h1 := h p (List.mem_cons_self ..)
    have := sumP_pos l (fun q hq => h q (List.mem_cons_of_mem _ hq))
    simp only [sumP]; omega
theorem sumP_take_le (l : List Pr) (k : Nat) (h : ∀ p ∈ l, p.1 < p.2) : 0 ≤ sumP (l.take k) ∧ sumP (l.take k) ≤ sumP l := by
  have h1 := sumP_app (l.take k) (l.drop k)
  rw [List.take_append_drop] at h1
  have h2 := sumP_pos (l.drop k) (fun p hp => h p (List.mem_of_mem_drop hp))
  have h3 := sumP_pos (l.take k) (fun p hp => h p (List.mem_of_mem_take hp))
  omega
end Go.Proofs.Ytafbkdpheneceaa
