
import Derived.Test.YtligjfofnafjeaaRows
namespace Go.Proofs.Ytligjfofnafjeaa

/-! Forests, as plain mathematics: snapshots in slots, their parents, cycles (chapter 21) -/
/-- Two of n + 1 numbers below n are the same. -/
theorem pigeon : ∀ (n : Nat) (f : Nat → Nat), (∀ i, i ≤ n → f i < n) → ∃ i j, i < j ∧ j ≤ n ∧ f i = f j
  | 0, f, h => absurd (h 0 (Nat.le_refl 0)) (Nat.not_lt_zero _)
  | n + 1, f, h => by
    by_cases hv : ∃ i, i ≤ n ∧ f i = f (n + 1)
    · obtain ⟨i, hi, e⟩ := hv
      exact ⟨i, n + 1, by omega, Nat.le_refl _, e⟩
    · have hne : ∀ i, i ≤ n → f i ≠ f (n + 1) := fun i hi e => hv ⟨i, hi, e⟩
      have h9 := h (n + 1) (Nat.le_refl _)
      obtain ⟨i, j, hij, hj, e⟩ := pigeon n (fun i => if f i = n then f (n + 1) else f i) (fun i hi => by
        have h1 := h i (by omega)
        have h2 := hne i hi
        show (if f i = n then f (n + 1) else f i) < n
        split
        · rename_i e; rw [e] at h2; omega
        · omega)
      refine ⟨i, j, hij, by omega, ?_⟩
      have e' : (if f i = n then f (n + 1) else f i) = (if f j = n then f (n + 1) else f j) := e
      have hi2 := hne i (by omega)
      have hj2 := hne j hj
      split at e' <;> split at e' <;> omega
/-- The first number below n of which p holds; -1: none. -/
def fnd (p : Nat → Bool) : Nat → Int
  | 0 => -1
  | n + 1 => if 0 ≤ fnd p n then fnd p n else if p n then (n : Int) else -1
theorem fnd_none (p : Nat → Bool) : ∀ n, (∀ k, k < n → p k = false) → fnd p n = -1
  | 0, _ => rfl
  | n + 1, h => by
    unfold fnd
    rw [fnd_none p n (fun k hk => h k (by omega)), if_neg (by omega), h n (by omega)]; rfl
theorem fnd_at (p : Nat → Bool) (i : Nat) (hi : p i = true) : ∀ n, i < n → (∀ k, k < i → p k = false) → fnd p n = (i : Int)
  | 0, h, _ => absurd h (Nat.not_lt_zero _)
  | n + 1, h, hk => by
    unfold fnd
    by_cases h1 : i < n
    · rw [fnd_at p i hi n h1 hk, if_pos (by omega)]
    · obtain rfl : i = n := by omega
      rw [fnd_none p i hk, if_neg (by omega), hi]; rfl
theorem fnd_spec (p : Nat → Bool) : ∀ n, (fnd p n = -1 ∧ ∀ k, k < n → p k = false) ∨ ∃ i : Nat, fnd p n = (i : Int) ∧ i < n ∧ p i = true ∧ ∀ k, k < i → p k = false
  | 0 => .inl ⟨rfl, fun k hk => absurd hk (Nat.not_lt_zero _)⟩
  | n + 1 => by
    rcases fnd_spec p n with ⟨h1, h2⟩ | ⟨i, h1, h2, h3, h4⟩
    · cases hp : p n
      · left
        refine ⟨by unfold fnd; rw [h1, if_neg (by omega), hp]; rfl, fun k hk => ?_⟩
        by_cases e : k = n
        · rw [e]; exact hp
        · exact h2 k (by omega)
      · right
        exact ⟨n, fnd_at p n hp (n + 1) (by omega) h2, by omega, hp, h2⟩
    · right
      exact ⟨i, fnd_at p i h3 (n + 1) (by omega) h4, by omega, h3, h4⟩
theorem fnd_eq {p q : Nat → Bool} : ∀ {n : Nat}, (∀ k, k < n → p k = q k) → fnd p n = fnd q n
  | 0, _ => rfl
  | n + 1, h => by
    unfold fnd
    rw [fnd_eq (fun k hk => h k (by omega)), h n (by omega)]
/-- Slots: how many; is one there (with an id that is not 0); its layer; id; parent. -/
structure Fr where
  n : Nat
  ok : Nat → Bool
  la : Nat → Bool
  id : Nat → Nat
  pa : Nat → Nat
namespace Fr
variable (F : Fr)
/-- Counts: there, with a layer. -/
def cd (i : Nat) : Bool := F.ok i && F.la i
/-- Does a lower one with a layer have its id? -/
def lower (i : Nat) : Bool := (List.range i).any fun k => F.cd k && F.id k == F.id i
def kp (i : Nat) : Bool := F.cd i && !F.lower i
/-- The kept one with that id. -/
def at_ (x : Nat) : Int := fnd (fun k => F.kp k && F.id k == x) F.n
def nx (i : Nat) : Int := F.at_ (F.pa i)
/-- The rows from 'at' on till 'from' is met again. -/
def rg : Nat → Nat → Nat → List Nat → List Nat
  | 0, _, _, _ => []
  | f + 1, from_, at_, out => if F.nx at_ < 0 then [] else if F.nx at_ = (from_ : Int) then out ++ [at_] else rg f from_ (F.nx at_).toNat (out ++ [at_])
def ring (i : Nat) : List Nat := F.rg (F.n + 1) i i []
def least (i : Nat) : Bool := !(F.ring i).isEmpty && (F.ring i).all fun k => decide (F.id i ≤ F.id k)
/-- Is its parent asked for, and is it there? -/
def want (i : Nat) : Bool := F.kp i && !(F.pa i == 0)
def noPa (i : Nat) : Bool := F.want i && decide (F.nx i < 0)
def cyc (i : Nat) : Bool := F.want i && !decide (F.nx i < 0) && F.least i
def par (i : Nat) : Nat := bif F.want i && !decide (F.nx i < 0) && !F.least i then F.pa i else 0
def twice (i : Nat) : Bool := F.cd i && F.lower i
def noLa (i : Nat) : Bool := F.ok i && !F.la i
/-- Numbers below n of which p holds, rising. -/
def sel (p : Nat → Bool) (n : Nat) : List Nat := (List.range n).filter p
/-- Ids are not 0 where one counts. -/
def Good : Prop := ∀ i, F.ok i = true → F.id i ≠ 0
end Fr
theorem sel_succ (p : Nat → Bool) (n : Nat) : Fr.sel p (n + 1) = Fr.sel p n ++ (if p n then [n] else []) := by
  unfold Fr.sel
  rw [List.range_succ, List.filter_append]
  cases hp : p n <;> simp [hp]
theorem sel_nil {p : Nat → Bool} {n : Nat} : Fr.sel p n = [] ↔ ∀ i, i < n → p i = false := by
  unfold Fr.sel
  rw [List.filter_eq_nil_iff]
  constructor
  · intro h i hi
    have := h i (by simpa using hi)
    simpa using this
  · intro h i hi
    have := h i (by simpa using hi)
    simp [this]
namespace Fr
variable {F : Fr}
theorem lower_iff {i : Nat} : F.lower i = true ↔ ∃ k, k < i ∧ F.cd k = true ∧ F.id k = F.id i := by
  unfold lower
  simp [List.any_eq_true]
theorem kp_cd {i : Nat} (h : F.kp i = true) : F.cd i = true := by unfold kp at h; simp at h; exact h.1
theorem kp_low {i : Nat} (h : F.kp i = true) : F.lower i = false := by unfold kp at h; simp at h; exact h.2
/-- Of those with one id the lowest one is kept. -/
theorem kp_first : ∀ (i : Nat), F.cd i = true → ∃ k, k ≤ i ∧ F.kp k = true ∧ F.id k = F.id i := by
  intro i
  induction i using Nat.strongRecOn with
  | ind i ih =>
    intro h
    cases hl : F.lower i
    · exact ⟨i, Nat.le_refl _, by unfold kp; rw [h, hl]; rfl, rfl⟩
    · obtain ⟨k, h1, h2, h3⟩ := lower_iff.1 hl
      obtain ⟨j, j1, j2, j3⟩ := ih k h1 h2
      exact ⟨j, by omega, j2, j3.trans h3⟩
theorem kp_one {i j : Nat} (hi : F.kp i = true) (hj : F.kp j = true) (e : F.id i = F.id j) : i = j := by
  by_cases h : i < j
  · have := kp_low hj
    have h2 := lower_iff.2 ⟨i, h, kp_cd hi, e⟩
    rw [this] at h2; cases h2
  · by_cases h9 : j < i
    · have := kp_low hi
      have h2 := lower_iff.2 ⟨j, h9, kp_cd hj, e.symm⟩
      rw [this] at h2; cases h2
    · omega
/-- The kept one with that id, where there is one. -/
theorem at_kp {i : Nat} (hn : i < F.n) (h : F.kp i = true) : F.at_ (F.id i) = (i : Int) := by
  unfold at_
  refine fnd_at _ i (by simp [h]) _ hn (fun k hk => ?_)
  cases hk' : F.kp k
  · rfl
  · rw [Bool.true_and]
    exact beq_eq_false_iff_ne.2 fun e => by have := kp_one hk' h e; omega
theorem at_spec (x : Nat) : (F.at_ x = -1 ∧ ∀ k, k < F.n → F.kp k = true → F.id k ≠ x) ∨ ∃ i : Nat, F.at_ x = (i : Int) ∧ i < F.n ∧ F.kp i = true ∧ F.id i = x := by
  unfold at_
  rcases fnd_spec (fun k => F.kp k && F.id k == x) F.n with ⟨h1, h2⟩ | ⟨i, h1, h2, h3, -⟩
  · left
    refine ⟨h1, fun k hk hkp e => ?_⟩
    have := h2 k hk
    simp [hkp, e] at this
  · right
    simp at h3
    exact ⟨i, h1, h2, h3.1, h3.2⟩
variable (F) in
/-- From one id to the next: the parent of the kept one, where that is a kept one's id. -/
def stp (x : Nat) : Option Nat := if F.at_ x < 0 then none else if F.nx (F.at_ x).toNat < 0 then none else some (F.pa (F.at_ x).toNat)
variable (F) in
def it : Nat → Nat → Option Nat
  | 0, x => some x
  | m + 1, x => (F.stp x).bind (it m)
variable (F) in
/-- Is x a kept one's id? -/
def In (x : Nat) : Prop := ∃ i, i < F.n ∧ F.kp i = true ∧ F.id i = x
theorem stp_kp {i : Nat} (hn : i < F.n) (h : F.kp i = true) : F.stp (F.id i) = if F.nx i < 0 then none else some (F.pa i) := by
  unfold stp
  rw [at_kp hn h, if_neg (by omega), Int.toNat_natCast]
theorem nx_spec (i : Nat) : F.nx i = -1 ∨ ∃ j : Nat, F.nx i = (j : Int) ∧ j < F.n ∧ F.kp j = true ∧ F.id j = F.pa i := by
  unfold nx
  rcases at_spec (F := F) (F.pa i) with h | h
  · exact .inl h.1
  · exact .inr h
theorem stp_in {x y : Nat} (h : F.stp x = some y) : ∃ i j : Nat, i < F.n ∧ F.kp i = true ∧ F.id i = x ∧ F.pa i = y ∧ F.nx i = (j : Int) ∧ j < F.n ∧ F.kp j = true ∧ F.id j = y := by
  unfold stp at h
  rcases at_spec (F := F) x with ⟨h1, -⟩ | ⟨i, h1, h2, h3, h4⟩
  · rw [h1, if_pos (by omega)] at h; cases h
  · rw [h1, if_neg (by omega), Int.toNat_natCast] at h
    rcases nx_spec (F := F) i with h5 | ⟨j, h5, h6, h7, h8⟩
    · rw [h5, if_pos (by omega)] at h; cases h
    · rw [h5, if_neg (by omega)] at h
      have := Option.some.inj h
      exact ⟨i, j, h2, h3, h4, this, h5, h6, h7, h8.trans this⟩
theorem it_add : ∀ (a b x : Nat), F.it (a + b) x = (F.it a x).bind (F.it b)
  | 0, b, x => by rw [Nat.zero_add]; rfl
  | a + 1, b, x => by
    rw [Nat.add_right_comm]
    show (F.stp x).bind (F.it (a + b)) = ((F.stp x).bind (F.it a)).bind (F.it b)
    cases h : F.stp x with
    | none => rfl
    | some y => exact it_add a b y
theorem it_two {a b x y z : Nat} (h1 : F.it a x = some y) (h2 : F.it b y = some z) : F.it (a + b) x = some z := by rw [it_add, h1]; exact h2
theorem it_cut {a b x y z : Nat} (h1 : F.it a x = some y) (h2 : F.it (a + b) x = some z) : F.it b y = some z := by rw [it_add, h1] at h2; exact h2
theorem it_in {x : Nat} (hx : F.In x) : ∀ {m y : Nat}, F.it m x = some y → F.In y := by
  intro m
  induction m generalizing x with
  | zero => intro y h; cases h; exact hx
  | succ m ih =>
    intro y h
    cases hs : F.stp x with
    | none => rw [it, hs] at h; cases h
    | some z =>
      rw [it, hs] at h
      obtain ⟨i, j, -, -, -, -, -, j2, j3, j4⟩ := stp_in hs
      exact ih ⟨j, j2, j3, j4⟩ h
/-- All that a cycle comes to comes round as it does. -/
theorem it_turn {m j x y : Nat} (h : F.it m x = some x) (hj : F.it j x = some y) : F.it m y = some y := by
  have h1 := it_two h hj
  rw [Nat.add_comm] at h1
  exact it_cut hj h1
theorem it_many {m x : Nat} (h : F.it m x = some x) : ∀ k, F.it (m * k) x = some x
  | 0 => rfl
  | k + 1 => by rw [Nat.mul_succ]; exact it_two (it_many h k) h
theorem it_back {m j x y : Nat} (hm : 1 ≤ m) (h : F.it m x = some x) (hj : F.it j x = some y) : ∃ b, F.it b y = some x := by
  have hle : j ≤ m * j := Nat.le_mul_of_pos_left j hm
  refine ⟨m * j - j, it_cut hj ?_⟩
  rw [Nat.add_sub_cancel' hle]; exact it_many h j
/-- A cycle comes round within n steps. -/
theorem it_short {m x : Nat} (hx : F.In x) (hm : 1 ≤ m) (h : F.it m x = some x) : ∃ k, 1 ≤ k ∧ k ≤ F.n ∧ F.it k x = some x := by
  have hall : ∀ j, ∃ y, F.it j x = some y := fun j => by
    have hle : j ≤ m * j := Nat.le_mul_of_pos_left j hm
    have h1 := it_many h j
    rw [← Nat.add_sub_cancel' hle, it_add] at h1
    cases hq : F.it j x with
    | none => rw [hq] at h1; cases h1
    | some y => exact ⟨y, rfl⟩
  have hsl : ∀ j, ∃ i, i < F.n ∧ F.it j x = some (F.id i) := fun j => by
    obtain ⟨y, hy⟩ := hall j
    obtain ⟨i, h1, -, h3⟩ := it_in hx hy
    exact ⟨i, h1, by rw [hy, h3]⟩
  obtain ⟨i, j, hij, hj, e⟩ := pigeon F.n (fun j => (hsl j).choose) (fun j _ => (hsl j).choose_spec.1)
  have e1 := (hsl i).choose_spec.2
  have e2 := (hsl j).choose_spec.2
  have e' : (hsl i).choose = (hsl j).choose := e
  rw [e'] at e1
  obtain ⟨y, hy⟩ := hall i
  have hyj : F.it j x = some y := by rw [e2, ← e1, hy]
  have hr : F.it (j - i) y = some y := it_cut hy (by rw [Nat.add_sub_cancel' (Nat.le_of_lt hij)]; exact hyj)
  obtain ⟨b, hb⟩ := it_back hm h hy
  exact ⟨j - i, by omega, by omega, it_turn hr hb⟩
/-- What rg finds. -/
theorem rg_some : ∀ (f i k : Nat) (out : List Nat), i < F.n → F.kp i = true → k < F.n → F.kp k = true → F.rg f i k out ≠ [] →
    ∃ m, 1 ≤ m ∧ m ≤ f ∧ F.it m (F.id k) = some (F.id i) ∧ (∀ q, q ∈ F.rg f i k out → q ∈ out ∨ ∃ j, j < m ∧ F.it j (F.id k) = some (F.id q)) ∧ (∀ j y, j < m → F.it j (F.id k) = some y → ∃ q, q ∈ F.rg f i k out ∧ F.id q = y) ∧ ∀ q, q ∈ out → q ∈ F.rg f i k out
  | 0, _, _, _, _, _, _, _, h => absurd rfl h
  | f + 1, i, k, out, hi, hki, hk, hkk, h => by
    unfold rg at h ⊢
    rcases nx_spec (F := F) k with h1 | ⟨j, h1, h2, h3, h4⟩
    · rw [h1, if_pos (by omega)] at h; exact absurd rfl h
    · have hst : F.stp (F.id k) = some (F.id j) := by rw [stp_kp hk hkk, h1, if_neg (by omega), h4]
      rw [h1, if_neg (by omega)] at h ⊢
      by_cases e : j = i
      · subst e
        rw [if_pos rfl] at h ⊢
        refine ⟨1, by omega, by omega, by unfold it; rw [hst]; rfl, fun q hq => ?_, fun a y ha hy => ?_, fun q hq => by simp [hq]⟩
        · simp at hq
          rcases hq with hq | hq
          · exact .inl hq
          · exact .inr ⟨0, by omega, by rw [hq]; rfl⟩
        · obtain rfl : a = 0 := by omega
          cases hy
          exact ⟨k, by simp, rfl⟩
      · rw [if_neg (by omega), Int.toNat_natCast] at h ⊢
        obtain ⟨m, m1, m2, m3, m4, m5, m6⟩ := rg_some f i j (out ++ [k]) hi hki h2 h3 h
        refine ⟨m + 1, by omega, by omega, by unfold it; rw [hst]; exact m3, fun q hq => ?_, fun a y ha hy => ?_, fun q hq => m6 q (by simp [hq])⟩
        · rcases m4 q hq with h9 | ⟨a, a1, a2⟩
          · simp at h9
            rcases h9 with h9 | h9
            · exact .inl h9
            · exact .inr ⟨0, by omega, by rw [h9]; rfl⟩
          · exact .inr ⟨a + 1, by omega, by unfold it; rw [hst]; exact a2⟩
        · cases a with
          | zero => cases hy; exact ⟨k, m6 k (by simp), rfl⟩
          | succ a =>
            unfold it at hy
            rw [hst] at hy
            exact m5 a y (by omega) hy
theorem rg_of : ∀ (f i k : Nat) (out : List Nat), i < F.n → F.kp i = true → k < F.n → F.kp k = true → (∃ m, 1 ≤ m ∧ m ≤ f ∧ F.it m (F.id k) = some (F.id i)) → F.rg f i k out ≠ []
  | 0, _, _, _, _, _, _, _, h => by obtain ⟨m, h1, h2, -⟩ := h; omega
  | f + 1, i, k, out, hi, hki, hk, hkk, h => by
    obtain ⟨m, m1, m2, m3⟩ := h
    obtain ⟨m, rfl⟩ : ∃ q, m = q + 1 := ⟨m - 1, by omega⟩
    unfold it at m3
    unfold rg
    rw [stp_kp hk hkk] at m3
    rcases nx_spec (F := F) k with h1 | ⟨j, h1, h2, h3, h4⟩
    · rw [h1, if_pos (by omega)] at m3; cases m3
    · rw [h1, if_neg (by omega)] at m3 ⊢
      have m3' : F.it m (F.id j) = some (F.id i) := by rw [h4]; exact m3
      by_cases e : j = i
      · rw [if_pos (by rw [e])]; simp
      · rw [if_neg (by omega), Int.toNat_natCast]
        refine rg_of f i j _ hi hki h2 h3 ⟨m, ?_, by omega, m3'⟩
        cases m with
        | zero => exact absurd (kp_one h3 hki (Option.some.inj m3')) e
        | succ m => omega
/-- A kept one is the least of a cycle: its id comes round, and nothing on the way is less. -/
theorem least_iff {i : Nat} (hi : i < F.n) (hk : F.kp i = true) : F.least i = true ↔ (∃ m, 1 ≤ m ∧ F.it m (F.id i) = some (F.id i)) ∧ ∀ j y, F.it j (F.id i) = some y → F.id i ≤ y := by
  unfold least ring
  constructor
  · intro h
    simp only [Bool.and_eq_true, Bool.not_eq_true', List.all_eq_true, decide_eq_true_eq] at h
    obtain ⟨h1, h2⟩ := h
    have hne : F.rg (F.n + 1) i i [] ≠ [] := fun e => by rw [e] at h1; cases h1
    obtain ⟨m, m1, m2, m3, -, m5, -⟩ := rg_some (F.n + 1) i i [] hi hk hi hk hne
    refine ⟨⟨m, m1, m3⟩, fun j y hy => ?_⟩
    have hmod : F.it (j % m) (F.id i) = some y := by
      have h8 := it_many m3 (j / m)
      have h9 : F.it (m * (j / m) + j % m) (F.id i) = some y := by rw [Nat.div_add_mod]; exact hy
      exact it_cut h8 h9
    obtain ⟨q, q1, q2⟩ := m5 (j % m) y (Nat.mod_lt _ m1) hmod
    rw [← q2]; exact h2 q q1
  · rintro ⟨⟨m, m1, m2⟩, h2⟩
    obtain ⟨k, k1, k2, k3⟩ := it_short ⟨i, hi, hk, rfl⟩ m1 m2
    have hne := rg_of (F.n + 1) i i [] hi hk hi hk ⟨k, k1, by omega, k3⟩
    obtain ⟨m', -, -, -, m4, -⟩ := rg_some (F.n + 1) i i [] hi hk hi hk hne
    simp only [Bool.and_eq_true, Bool.not_eq_true', List.all_eq_true, decide_eq_true_eq]
    refine ⟨by cases h : F.rg (F.n + 1) i i [] with | nil => exact absurd h hne | cons => rfl, fun q hq => ?_⟩
    rcases m4 q hq with h9 | ⟨j, -, hj⟩
    · cases h9
    · exact h2 j _ hj
/-- On each cycle there is a least one. -/
theorem least_of {x m : Nat} (hx : F.In x) (hm : 1 ≤ m) (h : F.it m x = some x) : ∃ i j, i < F.n ∧ F.kp i = true ∧ F.it j x = some (F.id i) ∧ F.least i = true := by
  have key : ∀ (v : Nat), (∃ j, F.it j x = some v) → ∃ y, (∃ j, F.it j x = some y) ∧ ∀ j z, F.it j x = some z → y ≤ z := by
    intro v
    induction v using Nat.strongRecOn with
    | ind v ih =>
      intro hv
      by_cases hs : ∃ z, z < v ∧ ∃ j, F.it j x = some z
      · obtain ⟨z, z1, z2⟩ := hs
        exact ih z z1 z2
      · exact ⟨v, hv, fun j z hz => Nat.le_of_not_lt fun h9 => hs ⟨z, h9, j, hz⟩⟩
  obtain ⟨y, ⟨j, hj⟩, hmin⟩ := key x ⟨0, rfl⟩
  obtain ⟨i, i1, i2, rfl⟩ := it_in hx hj
  refine ⟨i, j, i1, i2, hj, (least_iff i1 i2).2 ⟨⟨m, hm, it_turn h hj⟩, fun b z hz => hmin (j + b) z (it_two hj hz)⟩⟩
end Fr
end Go.Proofs.Ytligjfofnafjeaa
