import Derived.Test.YtafbkdpheneceaaQExtM
import Derived.Test.YtafbkdpheneceaaQExt0
namespace Go.Proofs.Ytafbkdpheneceaa

/-! Ranges that rise, touch nowhere and hold just the free ones are the ranges -/
theorem isIn_low {z a i : Nat} : ∀ {l : List (Nat × Nat)} (_ : Rises z a l), i < a → isIn i l = false
  | [], _, _ => rfl
  | (x, n) :: r, h, hi => by
    obtain ⟨h1, h2, h3, h4⟩ := h
    rw [isIn_cons, isIn_low h4 (by omega), decide_eq_false (by simp only; omega)]; rfl
theorem rises_unique {z : Nat} : ∀ {l s : List (Nat × Nat)} {a : Nat} (_ : Rises z a l) (_ : Rises z a s) (_ : ∀ i, isIn i l = isIn i s), l = s
  | [], [], _, _, _, _ => rfl
  | [], (y, m) :: s, a, _, h2, h => by
    obtain ⟨g1, g2, g3, g4⟩ := h2
    have := h y
    rw [isIn_cons, decide_eq_true (by simp only; omega)] at this
    cases this
  | (x, n) :: r, [], a, h1, _, h => by
    obtain ⟨g1, g2, g3, g4⟩ := h1
    have := h x
    rw [isIn_cons, decide_eq_true (by simp only; omega)] at this
    cases this
  | (x, n) :: r, (y, m) :: s, a, h1, h2, h => by
    obtain ⟨g1, g2, g3, g4⟩ := h1
    obtain ⟨k1, k2, k3, k4⟩ := h2
    have hxy : y ≤ x := by
      have := h x
      rw [isIn_cons, decide_eq_true (show (x, n).1 ≤ x ∧ x < (x, n).1 + (x, n).2 by simp only; omega), Bool.true_or, isIn_cons] at this
      by_cases hh : x < y
      · rw [isIn_low k4 (by omega), decide_eq_false (by simp only; omega)] at this; cases this
      · omega
    have hyx : x ≤ y := by
      have := h y
      rw [isIn_cons (l := s), decide_eq_true (show (y, m).1 ≤ y ∧ y < (y, m).1 + (y, m).2 by simp only; omega), Bool.true_or, isIn_cons] at this
      by_cases hh : y < x
      · rw [isIn_low g4 (by omega), decide_eq_false (by simp only; omega)] at this; cases this
      · omega
    obtain rfl : x = y := by omega
    have hnm : n = m := by
      have e1 := h (x + n)
      have e2 := h (x + m)
      rw [isIn_cons, isIn_cons, isIn_low g4 (by omega), decide_eq_false (show ¬ ((x, n).1 ≤ x + n ∧ x + n < (x, n).1 + (x, n).2) by simp only; omega)] at e1
      rw [isIn_cons, isIn_cons, isIn_low k4 (by omega), decide_eq_false (show ¬ ((x, m).1 ≤ x + m ∧ x + m < (x, m).1 + (x, m).2) by simp only; omega)] at e2
      by_cases hlt : n < m
      · rw [decide_eq_true (show (x, m).1 ≤ x + n ∧ x + n < (x, m).1 + (x, m).2 by simp only; omega)] at e1
        cases e1
      · by_cases hgt : m < n
        · rw [decide_eq_true (show (x, n).1 ≤ x + m ∧ x + m < (x, n).1 + (x, n).2 by simp only; omega)] at e2
          cases e2
        · omega
    subst hnm
    have ht : ∀ i, isIn i r = isIn i s := fun i => by
      by_cases hi : i < x + n + 1
      · rw [isIn_low g4 hi, isIn_low k4 hi]
      · have := h i
        rw [isIn_cons, isIn_cons, decide_eq_false (by simp only; omega), Bool.false_or, Bool.false_or] at this
        exact this
    rw [rises_unique g4 k4 ht]
theorem runs_unique (f : Nat → Bool) (a k : Nat) (l : List (Nat × Nat)) (hr : Rises (a + k) a l) (hin : ∀ i, a ≤ i → i < a + k → (isIn i l = true ↔ f i = false)) : l = runs f a k := by
  refine rises_unique hr (runs_rises f k a) fun i => ?_
  rw [runs_in]
  by_cases h : a ≤ i ∧ i < a + k
  · rw [decide_eq_true h, Bool.true_and, Bool.eq_iff_iff, hin i h.1 h.2]
    cases f i <;> simp
  · rw [decide_eq_false h, Bool.false_and]
    by_cases h1 : i < a
    · exact isIn_low hr h1
    · have h2 : a + k ≤ i := by omega
      have key : ∀ {l : List (Nat × Nat)} {b : Nat} (_ : Rises (a + k) b l), isIn i l = false := by
        intro l
        induction l with
        | nil => intro b _; rfl
        | cons p r ih =>
          intro b hb
          obtain ⟨x, n⟩ := p
          obtain ⟨g1, g2, g3, g4⟩ := hb
          rw [isIn_cons, ih g4, decide_eq_false (by simp only; omega)]; rfl
      exact key hr
/-- Lowest of ranges, found in any way. -/
theorem lowR_first (n : Int) (l : List (Nat × Nat)) (i : Nat) (p : Nat × Nat) (hp : l[i]? = some p) (h0 : 0 < n) (h1 : n ≤ (p.2 : Int)) (hno : ∀ (j : Nat) q, j < i → l[j]? = some q → (q.2 : Int) < n) : lowR n l = some p.1 := by
  induction l generalizing i with
  | nil => simp at hp
  | cons q r ih =>
    obtain ⟨x, m⟩ := q
    rw [lowR]
    rcases i with _ | i
    · simp at hp
      subst hp
      rw [if_pos ⟨h0, h1⟩]
    · have := hno 0 (x, m) (by omega) rfl
      rw [if_neg (fun hh => by simp only at this; omega)]
      exact ih i (by simpa using hp) (fun j q hj hq => hno (j + 1) q (by omega) (by simpa using hq))
theorem lowR_none (n : Int) (l : List (Nat × Nat)) (hno : n ≤ 0 ∨ ∀ q ∈ l, (q.2 : Int) < n) : lowR n l = none := by
  induction l with
  | nil => rfl
  | cons q r ih =>
    obtain ⟨x, m⟩ := q
    rw [lowR, if_neg]
    · exact ih (hno.imp id (fun h q hq => h q (by simp [hq])))
    · rintro ⟨h1, h2⟩
      rcases hno with h | h
      · omega
      · have := h (x, m) (by simp)
        simp only at this
        omega
end Go.Proofs.Ytafbkdpheneceaa
namespace Go.Proofs.Ytafbkdpheneceaa

/-! A heap of ranges: what stays, step by step -/
def gp (l : List Pr) (i : Nat) : Pr := l.getD i prZ
def kx (l : List Pr) (i : Nat) : Int := (gp l i).1
theorem getD_at (l : List Pr) (i : Nat) (h : i < l.length) : gp l i = l[i] := by simp [gp, List.getD_eq_getElem?_getD, h]
theorem gp_get (l : List Pr) (i : Nat) (h : i < l.length) : l[i]? = some (gp l i) := by rw [getD_at l i h]; exact List.getElem?_eq_getElem h
def swapL (l : List Pr) (i j : Nat) : List Pr := (l.set i (gp l j)).set j (gp l i)
@[simp] theorem swapL_len (l : List Pr) (i j : Nat) : (swapL l i j).length = l.length := by simp [swapL]
theorem kx_set (l : List Pr) (i : Nat) (p : Pr) (k : Nat) (hi : i < l.length) : kx (l.set i p) k = if k = i then p.1 else kx l k := by
  unfold kx gp
  rw [List.getD_eq_getElem?_getD, List.getD_eq_getElem?_getD, List.getElem?_set]
  by_cases h : k = i
  · subst h; simp [hi]
  · simp [h, Ne.symm h]
theorem kx_swap (l : List Pr) (i j k : Nat) (hi : i < l.length) (hj : j < l.length) : kx (swapL l i j) k = if k = j then kx l i else if k = i then kx l j else kx l k := by
  unfold swapL
  rw [kx_set _ _ _ _ (by simpa using hj), kx_set _ _ _ _ hi]; rfl
theorem swapL_perm (l : List Pr) (i j : Nat) (hi : i < l.length) (hj : j < l.length) : (swapL l i j).Perm l := by
  rw [List.perm_iff_count]
  intro a
  unfold swapL
  rw [getD_at _ _ hi, getD_at _ _ hj, List.count_set (by simpa using hj), List.count_set hi, List.getElem_set]
  have h1 : (if l[i] == a then 1 else 0) ≤ l.count a := by
    by_cases h : l[i] = a
    · simp only [h, beq_self_eq_true, if_true]
      exact List.count_pos_iff.2 (h ▸ List.getElem_mem hi)
    · simp [h]
  have h2 : (if l[j] == a then 1 else 0) ≤ l.count a := by
    by_cases h : l[j] = a
    · simp only [h, beq_self_eq_true, if_true]
      exact List.count_pos_iff.2 (h ▸ List.getElem_mem hj)
    · simp [h]
  by_cases e : i = j
  · subst e
    simp only [if_true]
    omega
  · simp only [e, if_false]
    omega
def HpE (l : List Pr) (k : Nat) : Prop := kx l ((k - 1) / 2) ≤ kx l k
def Hp (l : List Pr) : Prop := ∀ k, 0 < k → k < l.length → HpE l k
def UpOk (l : List Pr) (i : Nat) : Prop := (∀ k, 0 < k → k < l.length → k ≠ i → HpE l k) ∧ (0 < i → ∀ k, 0 < k → k < l.length → (k - 1) / 2 = i → kx l ((i - 1) / 2) ≤ kx l k)
theorem Hp.up {l : List Pr} (h : Hp l) (i : Nat) (hi : i < l.length) : UpOk l i :=
  ⟨fun k h0 hk _ => h k h0 hk, fun h0 k hk hl he => by
    have h1 := h k hk hl
    have h2 := h i h0 hi
    unfold HpE at h1 h2
    rw [he] at h1; omega⟩
theorem UpOk.done0 {l : List Pr} (h : UpOk l 0) : Hp l := fun k h0 hk => h.1 k h0 hk (by omega)
theorem UpOk.done {l : List Pr} {i : Nat} (h : UpOk l i) (hi : kx l ((i - 1) / 2) ≤ kx l i) : Hp l := fun k h0 hk => by
  by_cases e : k = i
  · subst e; exact hi
  · exact h.1 k h0 hk e
theorem UpOk.step {l : List Pr} {i : Nat} (h : UpOk l i) (h0 : 0 < i) (hi : i < l.length) (hlt : kx l i < kx l ((i - 1) / 2)) : UpOk (swapL l i ((i - 1) / 2)) ((i - 1) / 2) := by
  obtain ⟨p, hp⟩ : ∃ p, (i - 1) / 2 = p := ⟨_, rfl⟩
  rw [hp] at hlt ⊢
  have hpl : p < l.length := by omega
  have K := fun k => kx_swap l i p k hi hpl
  obtain ⟨h1, h2⟩ := h
  rw [hp] at h2
  constructor
  · intro k hk0 hk hkp
    rw [swapL_len] at hk
    unfold HpE
    rw [K, K]
    by_cases e : k = i
    · subst e
      rw [if_pos hp, if_neg hkp, if_pos rfl]; omega
    · have g := h1 k hk0 hk e
      unfold HpE at g
      rw [if_neg hkp, if_neg e]
      by_cases e1 : (k - 1) / 2 = p
      · rw [if_pos e1]
        rw [e1] at g
        omega
      · rw [if_neg e1]
        by_cases e2 : (k - 1) / 2 = i
        · rw [if_pos e2]
          exact h2 h0 k hk0 hk e2
        · rw [if_neg e2]; exact g
  · intro hp0 k hk0 hk he
    rw [swapL_len] at hk
    rw [K, K, if_neg (by omega), if_neg (by omega)]
    have g := h1 p hp0 hpl (by omega)
    unfold HpE at g
    by_cases e : k = i
    · rw [if_neg (by omega), if_pos e]; exact g
    · rw [if_neg (by omega), if_neg e]
      have g2 := h1 k hk0 hk e
      unfold HpE at g2
      rw [he] at g2; omega
theorem Hp.push {l : List Pr} (h : Hp l) (x : Pr) : UpOk (l ++ [x]) l.length := by
  have K : ∀ k, k < l.length → kx (l ++ [x]) k = kx l k := fun k hk => by
    unfold kx gp
    rw [List.getD_eq_getElem?_getD, List.getD_eq_getElem?_getD, List.getElem?_append_left hk]
  constructor
  · intro k h0 hk hne
    rw [List.length_append, List.length_singleton] at hk
    have := h k h0 (by omega)
    unfold HpE at this ⊢
    rw [K _ (by omega), K _ (by omega)]; exact this
  · intro _ k h0 hk he
    rw [List.length_append, List.length_singleton] at hk
    omega
def DnOk (l : List Pr) (m i : Nat) : Prop := (∀ k, 0 < k → k < l.length → (k - 1) / 2 ≠ m → k ≠ m → HpE l k) ∧ (0 < m → ∀ k, 0 < k → k < l.length → (k - 1) / 2 = m → kx l ((m - 1) / 2) ≤ kx l k) ∧ (m = i ∨ (0 < m → HpE l m))
theorem DnOk.done {l : List Pr} {m i : Nat} (h : DnOk l m i) (hi : i < l.length) (hc : ∀ c, 0 < c → c < l.length → (c - 1) / 2 = m → kx l m ≤ kx l c) : UpOk l i := by
  obtain ⟨h1, h2, h3⟩ := h
  have hE : ∀ k, 0 < k → k < l.length → k ≠ m → HpE l k := fun k k0 kl km => by
    by_cases e : (k - 1) / 2 = m
    · unfold HpE; rw [e]; exact hc k k0 kl e
    · exact h1 k k0 kl e km
  rcases h3 with rfl | h3
  · exact ⟨hE, h2⟩
  · have : Hp l := fun k k0 kl => by
      by_cases e : k = m
      · subst e; exact h3 k0
      · exact hE k k0 kl e
    exact this.up i hi
theorem DnOk.step {l : List Pr} {m i c : Nat} (h : DnOk l m i) (hm : m < l.length) (c0 : 0 < c) (hcl : c < l.length) (hcm : (c - 1) / 2 = m) (hlt : kx l c < kx l m) (hle : ∀ d, 0 < d → d < l.length → (d - 1) / 2 = m → kx l c ≤ kx l d) : DnOk (swapL l m c) c i := by
  have K := fun k => kx_swap l m c k hm hcl
  obtain ⟨h1, h2, h3⟩ := h
  refine ⟨fun k k0 hk kc kn => ?_, fun _ k k0 hk kc => ?_, ?_⟩
  · rw [swapL_len] at hk
    unfold HpE
    rw [K, K, if_neg kc, if_neg kn]
    by_cases e : k = m
    · rw [if_pos e, if_neg (by omega)]
      subst e
      exact h2 k0 c c0 hcl hcm
    · rw [if_neg e]
      by_cases e2 : (k - 1) / 2 = m
      · rw [if_pos e2]; exact hle k k0 hk e2
      · rw [if_neg e2]; exact h1 k k0 hk e2 e
  · rw [swapL_len] at hk
    rw [K, K, hcm, if_neg (by omega), if_pos rfl, if_neg (by omega), if_neg (by omega)]
    have := h1 k k0 hk (by omega) (by omega)
    unfold HpE at this
    rw [kc] at this; exact this
  · refine .inr fun _ => ?_
    unfold HpE
    rw [K, K, hcm, if_neg (by omega), if_pos rfl, if_pos rfl]; omega
/-- The element at i goes, the last one comes in its place. -/
def outL (l : List Pr) (i : Nat) : List Pr := (l.set i (gp l (l.length - 1))).take (l.length - 1)
@[simp] theorem outL_len (l : List Pr) (i : Nat) : (outL l i).length = l.length - 1 := by simp [outL]
theorem kx_out (l : List Pr) (i k : Nat) (hi : i < l.length) (hk : k < l.length - 1) : kx (outL l i) k = if k = i then kx l (l.length - 1) else kx l k := by
  have h := kx_set l i (gp l (l.length - 1)) k hi
  rw [show kx l (l.length - 1) = (gp l (l.length - 1)).1 from rfl, ← h]
  have hk2 : k < l.length := by omega
  unfold kx outL
  generalize gp l (l.length - 1) = q
  rw [getD_at _ _ (by simpa using hk), getD_at _ _ (by simpa using hk2), List.getElem_take]
theorem out_perm (l : List Pr) (i : Nat) (hi : i < l.length) : (gp l i :: outL l i).Perm l := by
  have hl : 0 < l.length := by omega
  have h1 : (l.set i (gp l (l.length - 1))).set (l.length - 1) (gp l i) = outL l i ++ [gp l i] := by
    apply List.ext_getElem?
    intro k
    rw [List.getElem?_set]
    by_cases e : l.length - 1 = k
    · subst e
      rw [if_pos rfl, if_pos (by simp; omega), List.getElem?_append_right (by simp)]
      simp
    · rw [if_neg e]
      by_cases h : k < l.length - 1
      · rw [List.getElem?_append_left (by simpa using h)]
        unfold outL
        rw [List.getElem?_take_of_lt h]
      · rw [List.getElem?_eq_none (by simp; omega), List.getElem?_eq_none (by simp; omega)]
  have h2 := swapL_perm l i (l.length - 1) hi (by omega)
  unfold swapL at h2
  rw [h1] at h2
  exact (List.perm_append_comm (l₁ := [gp l i]) (l₂ := outL l i)).trans h2
theorem Hp.out {l : List Pr} (h : Hp l) (i : Nat) (hi : i < l.length - 1) : DnOk (outL l i) i i := by
  have K := fun k hk => kx_out l i k (by omega) hk
  refine ⟨fun k k0 hk h1 h2 => ?_, fun i0 k k0 hk he => ?_, .inl rfl⟩
  · rw [outL_len] at hk
    unfold HpE
    rw [K _ (by omega), K _ hk, if_neg h1, if_neg h2]
    exact h k k0 (by omega)
  · rw [outL_len] at hk
    rw [K _ (by omega), K _ hk, if_neg (by omega), if_neg (by omega)]
    have g1 := h k k0 (by omega)
    have g2 := h i i0 (by omega)
    unfold HpE at g1 g2
    rw [he] at g1; omega
theorem Hp.out_last {l : List Pr} (h : Hp l) (i : Nat) (hi : i + 1 = l.length) : Hp (outL l i) := fun k k0 hk => by
  rw [outL_len] at hk
  unfold HpE
  rw [kx_out l i _ (by omega) (by omega), kx_out l i _ (by omega) hk, if_neg (by omega), if_neg (by omega)]
  exact h k k0 (by omega)
theorem Hp.low {l : List Pr} (h : Hp l) : ∀ k, k < l.length → kx l 0 ≤ kx l k := fun k => by
  induction k using Nat.strongRecOn with
  | ind k ih =>
    intro hk
    by_cases e : k = 0
    · subst e; omega
    · have h1 := ih ((k - 1) / 2) (by omega) (by omega)
      have h2 := h k (by omega) hk
      unfold HpE at h2
      omega
theorem Hp.nil : Hp [] := fun k _ hk => by simp at hk
theorem Hp.min {l : List Pr} (h : Hp l) (q : Pr) (hq : q ∈ l) : (gp l 0).1 ≤ q.1 := by
  obtain ⟨k, hk, rfl⟩ := List.getElem_of_mem hq
  have := h.low k hk
  unfold kx at this
  rwa [getD_at _ _ hk] at this
end Go.Proofs.Ytafbkdpheneceaa
namespace Go.Proofs.Ytafbkdpheneceaa

/-! Free ranges in any order: what they say of an extent -/
def Apart8 (p q : Pr) : Prop := p.2 < q.1 ∨ q.2 < p.1
theorem apart8_symm {p q : Pr} (h : Apart8 p q) : Apart8 q p := h.symm
structure Fr (st : XSt) (l : List Pr) : Prop where
  bnd : ∀ p ∈ l, (st.fr : Int) ≤ p.1 ∧ p.1 < p.2 ∧ p.2 ≤ (st.hi : Int)
  apart : l.Pairwise Apart8
  cov : ∀ x : Nat, st.fr ≤ x → x < st.hi → (st.f x = false ↔ ∃ p ∈ l, p.1 ≤ (x : Int) ∧ (x : Int) < p.2)
theorem pairwise_two {R : Pr → Pr → Prop} (hs : ∀ {p q}, R p q → R q p) : ∀ {l : List Pr}, l.Pairwise R → ∀ p ∈ l, ∀ q ∈ l, p = q ∨ R p q
  | [], _, p, hp, _, _ => by cases hp
  | a :: r, h, p, hp, q, hq => by
    rw [List.pairwise_cons] at h
    rcases List.mem_cons.1 hp with e1 | hp'
    · rcases List.mem_cons.1 hq with e2 | hq'
      · exact .inl (e1.trans e2.symm)
      · rw [e1]; exact .inr (h.1 q hq')
    · rcases List.mem_cons.1 hq with e2 | hq'
      · rw [e2]; exact .inr (hs (h.1 p hp'))
      · exact pairwise_two hs h.2 p hp' q hq'
theorem Fr.perm {st : XSt} {l l' : List Pr} (h : Fr st l) (hp : l'.Perm l) : Fr st l' :=
  ⟨fun p hm => h.bnd p (hp.mem_iff.1 hm), (hp.pairwise_iff (fun {_ _} => apart8_symm)).2 h.apart, fun x h1 h2 => (h.cov x h1 h2).trans ⟨fun ⟨p, q, r⟩ => ⟨p, hp.mem_iff.2 q, r⟩, fun ⟨p, q, r⟩ => ⟨p, hp.mem_iff.1 q, r⟩⟩⟩
def gv (p : Pr) : List Pr := if p.1 < p.2 then [p] else []
theorem mem_gv {p q : Pr} : q ∈ gv p ↔ q = p ∧ p.1 < p.2 := by
  unfold gv
  split <;> simp [*]
theorem Fr.new (a b : Nat) : Fr ⟨a, b, fun _ => false⟩ (gv ((a : Int), (b : Int))) where
  bnd p hp := by
    obtain ⟨rfl, h⟩ := mem_gv.1 hp
    simp only at h ⊢; omega
  apart := by unfold gv; split <;> simp
  cov x h1 h2 := ⟨fun _ => ⟨_, mem_gv.2 ⟨rfl, by simp only at h1 h2 ⊢; omega⟩, by simp only at h1 h2 ⊢; omega, by simp only at h1 h2 ⊢; omega⟩, fun _ => rfl⟩
theorem Fr.all_free {st : XSt} {l : List Pr} (h : Fr st l) (a n : Int) (hn : 0 < n) (ha : (st.fr : Int) ≤ a) (hb : a + n ≤ (st.hi : Int)) :
    allU st.f a.toNat false n.toNat = true ↔ ∃ s ∈ l, s.1 ≤ a ∧ a + n ≤ s.2 := by
  rw [allU_iff]
  constructor
  · intro H
    have h0 := (h.cov a.toNat (by omega) (by omega)).1 (by have := H 0 (by omega); simpa using this)
    obtain ⟨p, hp, h1, h2⟩ := h0
    refine ⟨p, hp, by omega, ?_⟩
    have : ∀ k : Nat, (k : Int) < n → a + k < p.2 := by
      intro k
      induction k with
      | zero => intro _; omega
      | succ k ih =>
        intro hk
        have hik := ih (by omega)
        obtain ⟨q, hq, q1, q2⟩ := (h.cov (a.toNat + (k + 1)) (by omega) (by omega)).1 (H (k + 1) (by omega))
        rcases pairwise_two apart8_symm h.apart p hp q hq with rfl | hA | hA
        · omega
        · omega
        · omega
    have := this (n.toNat - 1) (by omega)
    omega
  · rintro ⟨s, hs, h1, h2⟩ i hi
    exact (h.cov (a.toNat + i) (by omega) (by have := h.bnd s hs; omega)).2 ⟨s, hs, by omega, by omega⟩
theorem Fr.all_taken {st : XSt} {l : List Pr} (h : Fr st l) (a n : Int) (hn : 0 < n) (ha : (st.fr : Int) ≤ a) (hb : a + n ≤ (st.hi : Int)) :
    allU st.f a.toNat true n.toNat = true ↔ ∀ s ∈ l, ¬ (a < s.2 ∧ s.1 < a + n) := by
  rw [allU_iff]
  constructor
  · rintro H s hs ⟨h1, h2⟩
    have hb := h.bnd s hs
    by_cases h3 : s.1 ≤ a
    · have := H 0 (by omega)
      rw [(h.cov (a.toNat + 0) (by omega) (by omega)).2 ⟨s, hs, by omega, by omega⟩] at this
      cases this
    · have := H (s.1.toNat - a.toNat) (by omega)
      rw [(h.cov (a.toNat + (s.1.toNat - a.toNat)) (by omega) (by omega)).2 ⟨s, hs, by omega, by omega⟩] at this
      cases this
  · intro H i hi
    cases hf : st.f (a.toNat + i) with
    | true => rfl
    | false =>
      exfalso
      obtain ⟨s, hs, h1, h2⟩ := (h.cov (a.toNat + i) (by omega) (by omega)).1 hf
      exact H s hs ⟨by omega, by omega⟩
theorem xTurn_eq {st : XSt} {a n : Int} {b : Bool} (h : xOk st a n b = true) : xTurn st a n b = { st with f := fun i => if a ≤ (i : Int) ∧ (i : Int) < a + n then b else st.f i } := by rw [xTurn, if_pos h]
theorem xTurnNo {st : XSt} {a n : Int} {b : Bool} (h : xOk st a n b = false) : xTurn st a n b = st := by rw [xTurn, if_neg (by rw [h]; simp)]
theorem xTurn_0 {st : XSt} {a : Int} {b : Bool} : xOk st a 0 b = true ∧ xTurn st a 0 b = st := by
  have h : xOk st a 0 b = true := by simp [xOk]
  refine ⟨h, ?_⟩
  rw [xTurn_eq h]
  cases st
  simp only [XSt.mk.injEq, true_and]
  funext i
  rw [if_neg (by omega)]
theorem Fr.take {st : XSt} {l r : List Pr} (h : Fr st l) (s : Pr) (hp : (s :: r).Perm l) (a n : Int) (hn : 0 < n) (h1 : s.1 ≤ a) (h2 : a + n ≤ s.2) :
    Fr { st with f := fun i => if a ≤ (i : Int) ∧ (i : Int) < a + n then true else st.f i } (gv (a + n, s.2) ++ (gv (s.1, a) ++ r)) := by
  have h' := h.perm hp
  have hb := h'.bnd s (List.mem_cons_self ..)
  have hA := List.pairwise_cons.1 h'.apart
  have hmem : ∀ q, q ∈ gv (a + n, s.2) ++ (gv (s.1, a) ++ r) ↔ (q = (a + n, s.2) ∧ a + n < s.2) ∨ (q = (s.1, a) ∧ s.1 < a) ∨ q ∈ r := fun q => by
    rw [List.mem_append, List.mem_append, mem_gv, mem_gv]
  refine ⟨fun p hp => ?_, ?_, fun x x1 x2 => ?_⟩
  · rcases (hmem p).1 hp with ⟨rfl, h⟩ | ⟨rfl, h⟩ | h
    · simp only; omega
    · simp only; omega
    · exact h'.bnd p (List.mem_cons_of_mem _ h)
  · rw [List.pairwise_append, List.pairwise_append]
    refine ⟨by unfold gv; split <;> simp, ⟨by unfold gv; split <;> simp, hA.2, fun p hp q hq => ?_⟩, fun p hp q hq => ?_⟩
    · obtain ⟨rfl, h⟩ := mem_gv.1 hp
      have := hA.1 q hq
      have := h'.bnd q (List.mem_cons_of_mem _ hq)
      unfold Apart8 at *
      simp only at *; omega
    · obtain ⟨rfl, h⟩ := mem_gv.1 hp
      rcases List.mem_append.1 hq with hq | hq
      · obtain ⟨rfl, h⟩ := mem_gv.1 hq
        unfold Apart8 at *
        simp only at *; omega
      · have := hA.1 q hq
        have := h'.bnd q (List.mem_cons_of_mem _ hq)
        unfold Apart8 at *
        simp only at *; omega
  · have hc := h'.cov x x1 x2
    show (if a ≤ (x : Int) ∧ (x : Int) < a + n then true else st.f x) = false ↔ _
    by_cases hx : a ≤ (x : Int) ∧ (x : Int) < a + n
    · rw [if_pos hx]
      refine ⟨fun e => (by cases e), ?_⟩
      rintro ⟨q, hq, q1, q2⟩
      rcases (hmem q).1 hq with ⟨rfl, h⟩ | ⟨rfl, h⟩ | h
      · simp only at q1 q2; omega
      · simp only at q1 q2; omega
      · have := hA.1 q h
        unfold Apart8 at this
        omega
    · rw [if_neg hx, hc]
      constructor
      · rintro ⟨q, hq, q1, q2⟩
        rcases List.mem_cons.1 hq with rfl | hq
        · by_cases hlo : (x : Int) < a
          · exact ⟨(q.1, a), (hmem _).2 (.inr (.inl ⟨rfl, by omega⟩)), by simp only; omega, by simp only; omega⟩
          · exact ⟨(a + n, q.2), (hmem _).2 (.inl ⟨rfl, by omega⟩), by simp only; omega, by simp only; omega⟩
        · exact ⟨q, (hmem _).2 (.inr (.inr hq)), q1, q2⟩
      · rintro ⟨q, hq, q1, q2⟩
        rcases (hmem q).1 hq with ⟨rfl, h⟩ | ⟨rfl, h⟩ | h
        · exact ⟨s, List.mem_cons_self .., by simp only at q1; omega, q2⟩
        · exact ⟨s, List.mem_cons_self .., q1, by simp only at q2; omega⟩
        · exact ⟨q, List.mem_cons_of_mem _ h, q1, q2⟩
/-- A range s that becomes free, beside the free ones l. -/
structure Jn (st : XSt) (s : Pr) (l : List Pr) : Prop where
  bnd : ∀ p ∈ l, (st.fr : Int) ≤ p.1 ∧ p.1 < p.2 ∧ p.2 ≤ (st.hi : Int)
  own : (st.fr : Int) ≤ s.1 ∧ s.1 < s.2 ∧ s.2 ≤ (st.hi : Int)
  apart : l.Pairwise Apart8
  off : ∀ p ∈ l, p.2 ≤ s.1 ∨ s.2 ≤ p.1
  cov : ∀ x : Nat, st.fr ≤ x → x < st.hi → (st.f x = false ↔ (s.1 ≤ (x : Int) ∧ (x : Int) < s.2) ∨ ∃ p ∈ l, p.1 ≤ (x : Int) ∧ (x : Int) < p.2)
theorem Fr.jn {st : XSt} {l : List Pr} (h : Fr st l) (a n : Int) (hn : 0 < n) (ha : (st.fr : Int) ≤ a) (hb : a + n ≤ (st.hi : Int)) (hno : ∀ s ∈ l, ¬ (a < s.2 ∧ s.1 < a + n)) :
    Jn { st with f := fun i => if a ≤ (i : Int) ∧ (i : Int) < a + n then false else st.f i } (a, a + n) l where
  bnd := h.bnd
  own := ⟨ha, by simp only; omega, hb⟩
  apart := h.apart
  off p hp := by have := hno p hp; have := h.bnd p hp; simp only; omega
  cov x h1 h2 := by
    show (if a ≤ (x : Int) ∧ (x : Int) < a + n then false else st.f x) = false ↔ _
    by_cases hx : a ≤ (x : Int) ∧ (x : Int) < a + n
    · rw [if_pos hx]; exact ⟨fun _ => .inl hx, fun _ => rfl⟩
    · rw [if_neg hx, h.cov x h1 h2]
      exact ⟨.inr, fun e => e.elim (fun e => absurd e hx) id⟩
theorem Jn.step {st : XSt} {s o : Pr} {l r : List Pr} (h : Jn st s l) (hp : (o :: r).Perm l) (ht : o.2 = s.1 ∨ s.2 = o.1) : Jn st (min s.1 o.1, max s.2 o.2) r := by
  have hm : ∀ q, q ∈ l ↔ q = o ∨ q ∈ r := fun q => by rw [← hp.mem_iff, List.mem_cons]
  have hA := List.pairwise_cons.1 ((hp.pairwise_iff (fun {_ _} => apart8_symm)).2 h.apart)
  have hb := h.bnd o ((hm o).2 (.inl rfl))
  have ho := h.own
  refine ⟨fun p hp => h.bnd p ((hm p).2 (.inr hp)), by simp only; omega, hA.2, fun p hp => ?_, fun x h1 h2 => ?_⟩
  · have g1 := hA.1 p hp
    have g2 := h.off p ((hm p).2 (.inr hp))
    have g3 := h.bnd p ((hm p).2 (.inr hp))
    unfold Apart8 at g1
    simp only; omega
  · rw [h.cov x h1 h2]
    constructor
    · rintro (e | ⟨q, hq, q1, q2⟩)
      · exact .inl (by simp only; omega)
      · rcases (hm q).1 hq with rfl | hq
        · exact .inl (by simp only; omega)
        · exact .inr ⟨q, hq, q1, q2⟩
    · rintro (e | ⟨q, hq, q1, q2⟩)
      · simp only at e
        by_cases e2 : s.1 ≤ (x : Int) ∧ (x : Int) < s.2
        · exact .inl e2
        · exact .inr ⟨o, (hm o).2 (.inl rfl), by omega, by omega⟩
      · exact .inr ⟨q, (hm q).2 (.inr hq), q1, q2⟩
theorem Jn.done {st : XSt} {s : Pr} {l : List Pr} (h : Jn st s l) (hno : ∀ p ∈ l, ¬ (p.2 = s.1 ∨ s.2 = p.1)) : Fr st (s :: l) where
  bnd p hp := by
    rcases List.mem_cons.1 hp with rfl | hp
    · exact h.own
    · exact h.bnd p hp
  apart := List.pairwise_cons.2 ⟨fun p hp => by
    have g1 := h.off p hp
    have g2 := hno p hp
    unfold Apart8; omega, h.apart⟩
  cov x h1 h2 := by
    rw [h.cov x h1 h2]
    constructor
    · rintro (e | ⟨q, hq, e⟩)
      · exact ⟨s, List.mem_cons_self .., e⟩
      · exact ⟨q, List.mem_cons_of_mem _ hq, e⟩
    · rintro ⟨q, hq, e⟩
      rcases List.mem_cons.1 hq with rfl | hq
      · exact .inl e
      · exact .inr ⟨q, hq, e⟩
/-! Risen, they are the ranges -/
def tr (p : Pr) : Nat × Nat := (p.1.toNat, (p.2 - p.1).toNat)
def Srt (l : List Pr) : Prop := l.Pairwise fun p q => p.1 ≤ q.1
theorem srt_rises {z : Nat} : ∀ (ys : List Pr) (a : Nat), (∀ p ∈ ys, (a : Int) ≤ p.1 ∧ p.1 < p.2 ∧ p.2 ≤ (z : Int)) → ys.Pairwise Apart8 → Srt ys → Rises z a (ys.map tr)
  | [], _, _, _, _ => trivial
  | p :: r, a, hb, hA, hS => by
    have hp := hb p (List.mem_cons_self ..)
    rw [List.pairwise_cons] at hA
    have hS' := List.pairwise_cons.1 hS
    refine ⟨show a ≤ p.1.toNat by omega, show 1 ≤ (p.2 - p.1).toNat by omega, show p.1.toNat + (p.2 - p.1).toNat ≤ z by omega, srt_rises r _ (fun q hq => ?_) hA.2 hS'.2⟩
    have g1 := hA.1 q hq
    have g2 := hS'.1 q hq
    have g3 := hb q (List.mem_cons_of_mem _ hq)
    unfold Apart8 at g1
    omega
theorem isIn_tr (x : Nat) (ys : List Pr) (h : ∀ p ∈ ys, 0 ≤ p.1 ∧ p.1 < p.2) : isIn x (ys.map tr) = true ↔ ∃ p ∈ ys, p.1 ≤ (x : Int) ∧ (x : Int) < p.2 := by
  unfold isIn
  rw [List.any_eq_true]
  simp only [List.mem_map, decide_eq_true_eq]
  constructor
  · rintro ⟨_, ⟨p, hp, rfl⟩, h1⟩
    have := h p hp
    unfold tr at h1
    exact ⟨p, hp, by simp only at h1; omega, by simp only at h1; omega⟩
  · rintro ⟨p, hp, h1, h2⟩
    have := h p hp
    exact ⟨_, ⟨p, hp, rfl⟩, by unfold tr; simp only; omega⟩
theorem Fr.runs {st : XSt} {l ys : List Pr} (h : Fr st l) (hle : st.fr ≤ st.hi) (hp : ys.Perm l) (hS : Srt ys) : ys.map tr = xRuns st := by
  have h' := h.perm hp
  refine runs_unique st.f st.fr (st.hi - st.fr) _ (srt_rises ys _ (fun p hm => ?_) h'.apart hS) fun x h1 h2 => ?_
  · have := h'.bnd p hm; omega
  · rw [isIn_tr x ys (fun p hm => by have := h'.bnd p hm; omega), h'.cov x h1 (by omega)]
theorem srt_ex (l : List Pr) : ∃ ys, ys.Perm l ∧ Srt ys := by
  refine ⟨l.mergeSort (fun p q => decide (p.1 ≤ q.1)), List.mergeSort_perm _ _, ?_⟩
  have := List.pairwise_mergeSort (le := fun p q : Pr => decide (p.1 ≤ q.1)) (fun a b c h1 h2 => by simp only [decide_eq_true_eq] at *; omega) (fun a b => by simp only [Bool.or_eq_true, decide_eq_true_eq]; omega) l
  exact this.imp (fun h => by simpa using h)
def sumP : List Pr → Int
  | [] => 0
  | p :: r => (p.2 - p.1) + sumP r
theorem sumP_perm {l l' : List Pr} (h : l.Perm l') : sumP l = sumP l' := by
  induction h with
  | nil => rfl
  | cons x _ ih => simp [sumP, ih]
  | swap x y l => simp only [sumP]; omega
  | trans _ _ h1 h2 => exact h1.trans h2
theorem sumP_tr : ∀ (ys : List Pr), (∀ p ∈ ys, 0 ≤ p.1 ∧ p.1 < p.2) → ((sumR (ys.map tr) : Nat) : Int) = sumP ys
  | [], _ => rfl
  | p :: r, h => by
    have h1 := h p (List.mem_cons_self ..)
    have ih := sumP_tr r (fun q hq => h q (List.mem_cons_of_mem _ hq))
    rw [List.map_cons, sumR, sumP, ← ih]
    unfold tr; simp only; omega
theorem Fr.left {st : XSt} {l : List Pr} (h : Fr st l) (hle : st.fr ≤ st.hi) : ((xLeft st : Nat) : Int) = sumP l := by
  obtain ⟨ys, hp, hS⟩ := srt_ex l
  have e := h.runs hle hp hS
  have h' := h.perm hp
  rw [← sumP_perm hp, ← sumP_tr ys (fun p hm => by have := h'.bnd p hm; omega), e]
  unfold xLeft xRuns
  rw [runs_sum]
theorem Fr.len {st : XSt} {l : List Pr} (h : Fr st l) (hle : st.fr ≤ st.hi) (h1 : st.hi ≤ 1024) : l.length ≤ 1024 := by
  obtain ⟨ys, hp, hS⟩ := srt_ex l
  have e := h.runs hle hp hS
  have h2 := rises_len (runs_rises st.f (st.hi - st.fr) st.fr)
  have h3 : (ys.map tr).length = l.length := by rw [List.length_map]; exact hp.length_eq
  unfold xRuns at e
  rw [e] at h3
  rcases h2 with h2 | h2
  · rw [h2] at h3; simp at h3; omega
  · omega
theorem rI_tr : ∀ (ys : List Pr), (∀ p ∈ ys, 0 ≤ p.1 ∧ p.1 < p.2) → (ys.map tr).map (fun p => ((p.1 : Int), (p.2 : Int))) = ys.map fun p => (p.1, p.2 - p.1)
  | [], _ => rfl
  | p :: r, h => by
    have h1 := h p (List.mem_cons_self ..)
    have ih := rI_tr r (fun q hq => h q (List.mem_cons_of_mem _ hq))
    rw [List.map_cons, List.map_cons, List.map_cons, ih]
    congr 1
    unfold tr
    simp only [Prod.mk.injEq]
    omega
theorem sumP_app : ∀ l r : List Pr, sumP (l ++ r) = sumP l + sumP r
  | [], r => by simp [sumP]
  | p :: l, r => by simp only [List.cons_append, sumP, sumP_app l r]; omega
theorem sumP_take (l : List Pr) (k : Nat) (p : Pr) (h : l[k]? = some p) : sumP (l.take (k + 1)) = sumP (l.take k) + (p.2 - p.1) := by
  rw [take_snoc l k p h, sumP_app]
  simp [sumP]
theorem sumP_pos : ∀ (l : List Pr), (∀ p ∈ l, p.1 < p.2) → 0 ≤ sumP l
  | [], _ => by simp [sumP]
  | p :: l, h => by
    have h1 := h p (List.mem_cons_self ..)
    have := sumP_pos l (fun q hq => h q (List.mem_cons_of_mem _ hq))
    simp only [sumP]; omega
theorem sumP_take_le (l : List Pr) (k : Nat) (h : ∀ p ∈ l, p.1 < p.2) : 0 ≤ sumP (l.take k) ∧ sumP (l.take k) ≤ sumP l := by
  have h1 := sumP_app (l.take k) (l.drop k)
  rw [List.take_append_drop] at h1
  have h2 := sumP_pos (l.drop k) (fun p hp => h p (List.mem_of_mem_drop hp))
  have h3 := sumP_pos (l.take k) (fun p hp => h p (List.mem_of_mem_take hp))
  omega
end Go.Proofs.Ytafbkdpheneceaa
