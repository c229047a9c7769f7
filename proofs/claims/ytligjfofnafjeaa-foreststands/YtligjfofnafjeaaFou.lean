
import Derived.Test.YtligjfofnafjeaaForN
namespace Go.Proofs.Ytligjfofnafjeaa

/-! Walks over slots: from each slot to the next, or to none; one slot of each cycle; the least of a cycle -/
def uOk (n : Nat) (u : Nat → Int) : Prop := ∀ i, i < n → u i = -1 ∨ ∃ j : Nat, u i = (j : Int) ∧ j < n
/-- Where m steps lead to. -/
def ug (u : Nat → Int) : Nat → Nat → Option Nat
  | 0, i => some i
  | m + 1, i => if u i < 0 then none else ug u m (u i).toNat
section
variable {u : Nat → Int} {n : Nat}
theorem ug_add : ∀ (a b i : Nat), ug u (a + b) i = (ug u a i).bind (ug u b)
  | 0, b, i => by rw [Nat.zero_add]; rfl
  | a + 1, b, i => by
    rw [Nat.add_right_comm]
    show (if u i < 0 then none else ug u (a + b) (u i).toNat) = (if u i < 0 then none else ug u a (u i).toNat).bind (ug u b)
    split
    · rfl
    · exact ug_add a b _
theorem ug_two {a b i j k : Nat} (h1 : ug u a i = some j) (h2 : ug u b j = some k) : ug u (a + b) i = some k := by rw [ug_add, h1]; exact h2
theorem ug_cut {a b i j k : Nat} (h1 : ug u a i = some j) (h2 : ug u (a + b) i = some k) : ug u b j = some k := by rw [ug_add, h1] at h2; exact h2
theorem ug_one {i j : Nat} (h : u i = (j : Int)) : ug u 1 i = some j := by
  show (if u i < 0 then none else ug u 0 (u i).toNat) = some j
  rw [h, if_neg (by omega), Int.toNat_natCast]; rfl
theorem ug_end {i : Nat} (h : u i < 0) : ug u 1 i = none := by
  show (if u i < 0 then none else ug u 0 (u i).toNat) = none
  rw [if_pos h]
theorem ug_many {m i : Nat} (h : ug u m i = some i) : ∀ k, ug u (m * k) i = some i
  | 0 => rfl
  | k + 1 => by rw [Nat.mul_succ]; exact ug_two (ug_many h k) h
def On (u : Nat → Int) (i : Nat) : Prop := ∃ m, 1 ≤ m ∧ ug u m i = some i
def To (u : Nat → Int) (i k : Nat) : Prop := ∃ m, ug u m i = some k
theorem To.trans {i j k : Nat} (h1 : To u i j) (h2 : To u j k) : To u i k := by
  obtain ⟨a, h1⟩ := h1
  obtain ⟨b, h2⟩ := h2
  exact ⟨_, ug_two h1 h2⟩
theorem To.back {i k : Nat} (h : To u i k) (ho : On u i) : To u k i := by
  obtain ⟨j, hj⟩ := h
  obtain ⟨m, hm, h⟩ := ho
  have hle : j ≤ m * j := Nat.le_mul_of_pos_left j hm
  refine ⟨m * j - j, ug_cut hj ?_⟩
  rw [Nat.add_sub_cancel' hle]; exact ug_many h j
theorem On.all {i : Nat} (ho : On u i) (a : Nat) : ∃ k, ug u a i = some k := by
  obtain ⟨m, hm, h⟩ := ho
  have hle : a ≤ m * a := Nat.le_mul_of_pos_left a hm
  have h1 := ug_many h a
  rw [← Nat.add_sub_cancel' hle, ug_add] at h1
  cases hq : ug u a i with
  | none => rw [hq] at h1; cases h1
  | some y => exact ⟨y, rfl⟩
theorem ug_lt (hu : uOk n u) : ∀ (m i k : Nat), i < n → ug u m i = some k → k < n
  | 0, i, k, hi, h => by cases h; exact hi
  | m + 1, i, k, hi, h => by
    have h' : (if u i < 0 then none else ug u m (u i).toNat) = some k := h
    rcases hu i hi with h1 | ⟨j, h1, h2⟩
    · rw [h1, if_pos (by omega)] at h'; cases h'
    · rw [h1, if_neg (by omega), Int.toNat_natCast] at h'
      exact ug_lt hu m j k h2 h'
/-- What the walks from the first s slots have told: W: by which walk a slot was met; M: one slot of each cycle. -/
structure Rnd (n : Nat) (u : Nat → Int) (W : Nat → Nat) (s : Nat) (M : List Nat) : Prop where
  low : ∀ k, k < s → W k ≠ 0
  le : ∀ k, W k ≤ s
  shut : ∀ k j : Nat, k < n → W k ≠ 0 → u k = (j : Int) → W j ≠ 0
  mem : ∀ m ∈ M, m < n ∧ W m ≠ 0 ∧ On u m
  all : ∀ k, k < n → W k ≠ 0 → On u k → ∃ m ∈ M, To u k m
  one : M.Pairwise fun a b => ¬ To u a b
  len : M.length ≤ s
theorem Rnd.start : Rnd n u (fun _ => 0) 0 [] := ⟨fun k hk => absurd hk (Nat.not_lt_zero _), fun _ => Nat.le_refl _, fun _ _ _ h => absurd rfl h, fun m hm => (by cases hm), fun _ _ h => absurd rfl h, List.Pairwise.nil, Nat.le_refl _⟩
theorem Rnd.to {W : Nat → Nat} {s : Nat} {M : List Nat} (h : Rnd n u W s M) (hu : uOk n u) : ∀ (m i k : Nat), i < n → W i ≠ 0 → ug u m i = some k → W k ≠ 0
  | 0, i, k, _, hw, e => by cases e; exact hw
  | m + 1, i, k, hi, hw, e => by
    have e' : (if u i < 0 then none else ug u m (u i).toNat) = some k := e
    rcases hu i hi with h1 | ⟨j, h1, h2⟩
    · rw [h1, if_pos (by omega)] at e'; cases e'
    · rw [h1, if_neg (by omega), Int.toNat_natCast] at e'
      exact h.to hu m j k h2 (h.shut i j hi hw h1) e'
/-- A walk from slot s under way: T: the slots that it has met, a: where it stands. -/
structure Flw (n : Nat) (u : Nat → Int) (W0 : Nat → Nat) (s : Nat) (W : Nat → Nat) (T : List Nat) (a : Int) : Prop where
  tr : ∀ k ∈ T, W0 k = 0 ∧ k < n
  w : ∀ k, W k = if k ∈ T then s + 1 else W0 k
  nx : ∀ k ∈ T, (∃ j : Nat, j ∈ T ∧ u k = (j : Int)) ∨ u k = a
  to : ∀ x : Nat, a = (x : Int) → ∀ k ∈ T, ∃ m, 1 ≤ m ∧ ug u m k = some x
  fin : a < 0 → ∀ k ∈ T, ∃ m, ug u m k = none
  hd : s ∈ T ∨ a = (s : Int)
  at_ : a = -1 ∨ ∃ x : Nat, a = (x : Int) ∧ x < n
theorem Flw.start {W0 : Nat → Nat} {s : Nat} (hs : s < n) : Flw n u W0 s W0 [] (s : Int) :=
  ⟨fun k hk => (by cases hk), fun k => (by simp), fun k hk => (by cases hk), fun _ _ k hk => (by cases hk), fun h => (by omega), .inr rfl, .inr ⟨s, rfl, hs⟩⟩
theorem Flw.step {W0 W : Nat → Nat} {s x : Nat} {T : List Nat} (h : Flw n u W0 s W T (x : Int)) (hu : uOk n u) (hx : W x = 0) : Flw n u W0 s (fun k => if k = x then s + 1 else W k) (x :: T) (u x) := by
  have hxn : x < n := by
    rcases h.at_ with h1 | ⟨y, h1, h2⟩
    · omega
    · omega
  have hnT : x ∉ T := fun hm => by have := h.w x; rw [if_pos hm, hx] at this; omega
  have hw0 : W0 x = 0 := by have := h.w x; rw [if_neg hnT, hx] at this; exact this.symm
  refine ⟨fun k hk => ?_, fun k => ?_, fun k hk => ?_, fun y hy k hk => ?_, fun hlt k hk => ?_, ?_, ?_⟩
  · rcases List.mem_cons.1 hk with rfl | hk
    · exact ⟨hw0, hxn⟩
    · exact h.tr k hk
  · show (if k = x then s + 1 else W k) = _
    by_cases e : k = x
    · rw [if_pos e, if_pos (by rw [e]; exact List.mem_cons_self)]
    · rw [if_neg e, h.w k]
      by_cases hm : k ∈ T
      · rw [if_pos hm, if_pos (List.mem_cons_of_mem _ hm)]
      · rw [if_neg hm, if_neg (fun h9 => (List.mem_cons.1 h9).elim e hm)]
  · rcases List.mem_cons.1 hk with rfl | hk
    · exact .inr rfl
    · rcases h.nx k hk with ⟨j, h1, h2⟩ | h1
      · exact .inl ⟨j, List.mem_cons_of_mem _ h1, h2⟩
      · exact .inl ⟨x, List.mem_cons_self, h1⟩
  · rcases List.mem_cons.1 hk with rfl | hk
    · exact ⟨1, Nat.le_refl _, ug_one hy⟩
    · obtain ⟨m, h1, h2⟩ := h.to x rfl k hk
      exact ⟨m + 1, by omega, ug_two h2 (ug_one hy)⟩
  · rcases List.mem_cons.1 hk with rfl | hk
    · exact ⟨1, ug_end hlt⟩
    · obtain ⟨m, h1, h2⟩ := h.to x rfl k hk
      exact ⟨m + 1, by rw [ug_add, h2]; exact ug_end hlt⟩
  · left
    rcases h.hd with h1 | h1
    · exact List.mem_cons_of_mem _ h1
    · rw [show s = x by omega]; exact List.mem_cons_self
  · exact hu x hxn
section
variable {W0 W : Nat → Nat} {s : Nat} {T M : List Nat} {a : Int}
theorem Flw.low (h : Flw n u W0 s W T a) (h0 : Rnd n u W0 s M) (ha : s ∈ T ∨ W s ≠ 0) : ∀ k, k < s + 1 → W k ≠ 0 := by
  intro k hk
  by_cases hm : k ∈ T
  · rw [h.w k, if_pos hm]; omega
  · by_cases e : k = s
    · subst e
      rcases ha with ha | ha
      · exact absurd ha hm
      · exact ha
    · rw [h.w k, if_neg hm]; exact h0.low k (by omega)
theorem Flw.le (h : Flw n u W0 s W T a) (h0 : Rnd n u W0 s M) : ∀ k, W k ≤ s + 1 := by
  intro k
  rw [h.w k]
  split
  · exact Nat.le_refl _
  · exact Nat.le_succ_of_le (h0.le k)
theorem Flw.old (h : Flw n u W0 s W T a) {k : Nat} (hk : W0 k ≠ 0) : W k ≠ 0 := by
  rw [h.w k]
  split
  · omega
  · exact hk
theorem Flw.shut (h : Flw n u W0 s W T a) (h0 : Rnd n u W0 s M) (ha : ∀ x : Nat, a = (x : Int) → W x ≠ 0) : ∀ k j : Nat, k < n → W k ≠ 0 → u k = (j : Int) → W j ≠ 0 := by
  intro k j hk hw e
  by_cases hm : k ∈ T
  · rcases h.nx k hm with ⟨i, h1, h2⟩ | h1
    · rw [show j = i by omega, h.w i, if_pos h1]; omega
    · exact ha j (by rw [← h1, e])
  · rw [h.w k, if_neg hm] at hw
    exact h.old (h0.shut k j hk hw e)
/-- The walk has come to an end. -/
theorem Flw.ends (h : Flw n u W0 s W T a) (h0 : Rnd n u W0 s M) (ha : a < 0) : Rnd n u W (s + 1) M := by
  refine ⟨h.low h0 (h.hd.elim .inl (fun e => by omega)), h.le h0, h.shut h0 (fun x e => by omega), fun m hm => ⟨(h0.mem m hm).1, h.old (h0.mem m hm).2.1, (h0.mem m hm).2.2⟩, fun k hk hw ho => ?_, h0.one, Nat.le_succ_of_le h0.len⟩
  by_cases hm : k ∈ T
  · obtain ⟨m, hm⟩ := h.fin ha k hm
    obtain ⟨y, hy⟩ := ho.all m
    rw [hm] at hy; cases hy
  · rw [h.w k, if_neg hm] at hw
    exact h0.all k hk hw ho
/-- It has come to where it has been itself. -/
theorem Flw.meets {x : Nat} (h : Flw n u W0 s W T (x : Int)) (h0 : Rnd n u W0 s M) (hu : uOk n u) (hx : W x = s + 1) : Rnd n u W (s + 1) (M ++ [x]) := by
  have hT : x ∈ T := by
    refine Classical.byContradiction fun hm => ?_
    have h1 := h.w x
    have h2 := h0.le x
    rw [if_neg hm] at h1
    omega
  obtain ⟨hw0, hxn⟩ := h.tr x hT
  refine ⟨h.low h0 (h.hd.elim .inl (fun e => .inl (by rw [show s = x by omega]; exact hT))), h.le h0, h.shut h0 (fun y e => by rw [show y = x by omega]; omega), fun m hm => ?_, fun k hk hw ho => ?_, ?_, by rw [List.length_append]; have := h0.len; simp; omega⟩
  · rcases List.mem_append.1 hm with hm | hm
    · exact ⟨(h0.mem m hm).1, h.old (h0.mem m hm).2.1, (h0.mem m hm).2.2⟩
    · rw [List.mem_singleton] at hm
      subst hm
      obtain ⟨q, q1, q2⟩ := h.to m rfl m hT
      exact ⟨hxn, by omega, q, q1, q2⟩
  · by_cases hm : k ∈ T
    · obtain ⟨q, -, q2⟩ := h.to x rfl k hm
      exact ⟨x, by simp, q, q2⟩
    · rw [h.w k, if_neg hm] at hw
      obtain ⟨m, m1, m2⟩ := h0.all k hk hw ho
      exact ⟨m, List.mem_append_left _ m1, m2⟩
  · rw [List.pairwise_append]
    refine ⟨h0.one, List.pairwise_singleton _ _, fun m hm y hy ht => ?_⟩
    rw [List.mem_singleton] at hy
    subst hy
    obtain ⟨q, hq⟩ := ht
    exact h0.to hu q m y (h0.mem m hm).1 (h0.mem m hm).2.1 hq hw0
/-- It has come to where an earlier one has been. -/
theorem Flw.joins {x : Nat} (h : Flw n u W0 s W T (x : Int)) (h0 : Rnd n u W0 s M) (hu : uOk n u) (hx : W x ≠ 0) (hx2 : W x ≠ s + 1) : Rnd n u W (s + 1) M := by
  have hT : x ∉ T := fun hm => hx2 (by rw [h.w x, if_pos hm])
  have hw0 : W0 x ≠ 0 := by have := h.w x; rw [if_neg hT] at this; rw [← this]; exact hx
  have hxn : x < n := by
    rcases h.at_ with h1 | ⟨y, h1, h2⟩
    · omega
    · omega
  refine ⟨h.low h0 (h.hd.elim .inl (fun e => .inr (by rw [show s = x by omega]; exact hx))), h.le h0, h.shut h0 (fun y e => by rw [show y = x by omega]; exact hx), fun m hm => ⟨(h0.mem m hm).1, h.old (h0.mem m hm).2.1, (h0.mem m hm).2.2⟩, fun k hk hw ho => ?_, h0.one, Nat.le_succ_of_le h0.len⟩
  by_cases hm : k ∈ T
  · exfalso
    obtain ⟨q, -, q2⟩ := h.to x rfl k hm
    obtain ⟨p, hp⟩ := To.back ⟨q, q2⟩ ho
    exact h0.to hu p x k hxn hw0 hp (h.tr k hm).1
  · rw [h.w k, if_neg hm] at hw
    exact h0.all k hk hw ho
end
/-! The least of a cycle -/
/-- How far it is from slot x to slot t, where that is at most m steps. -/
def dst (u : Nat → Int) (t m x : Nat) : Nat := (fnd (fun d => decide (ug u d x = some t)) (m + 1)).toNat
theorem dst_step {t m x y : Nat} (hx : x ≠ t) (hy : u x = (y : Int)) (h : ∃ d, d ≤ m ∧ ug u d x = some t) : dst u t m y < dst u t m x := by
  unfold dst
  rcases fnd_spec (fun d => decide (ug u d x = some t)) (m + 1) with ⟨h1, h2⟩ | ⟨d, h1, h2, h3, h4⟩
  · exfalso
    obtain ⟨d, d1, d2⟩ := h
    have := h2 d (by omega)
    rw [d2] at this
    simp at this
  · rw [h1, Int.toNat_natCast]
    have h3' : ug u d x = some t := by simpa using h3
    cases d with
    | zero => exact absurd (Option.some.inj h3') hx
    | succ d =>
      have e1 : ∀ a, ug u (a + 1) x = ug u a y := fun a => by
        show (if u x < 0 then none else ug u a (u x).toNat) = _
        rw [hy, if_neg (by omega), Int.toNat_natCast]
      rw [fnd_at (fun a => decide (ug u a y = some t)) d (by rw [e1] at h3'; simpa using h3') (m + 1) (by omega) (fun a ha => by
        have := h4 (a + 1) (by omega)
        rw [e1] at this; exact this)]
      rw [Int.toNat_natCast]; omega
/-- From slot t round: x: where one stands, s: the slot with the least number so far. -/
structure Lst (n : Nat) (u : Nat → Int) (f : Nat → Nat) (t m s x : Nat) : Prop where
  far : ∃ d, d ≤ m ∧ ug u d x = some t
  j : ∃ j, ug u (j + 1) t = some x ∧ (∃ i, i ≤ j ∧ ug u i t = some s) ∧ ∀ i k, i ≤ j → ug u i t = some k → f s ≤ f k
  lt : x < n ∧ s < n
theorem Lst.start {f : Nat → Nat} {t m x : Nat} (ht : t < n) (hu : uOk n u) (hm : 1 ≤ m) (h : ug u m t = some t) (hx : u t = (x : Int)) : Lst n u f t m t x := by
  refine ⟨⟨m - 1, by omega, ug_cut (ug_one hx) (by rw [Nat.add_sub_cancel' hm]; exact h)⟩, ⟨0, ug_one hx, ⟨0, Nat.le_refl _, rfl⟩, fun i k hi hk => ?_⟩, ug_lt hu 1 t x ht (ug_one hx), ht⟩
  obtain rfl : i = 0 := by omega
  cases hk; exact Nat.le_refl _
theorem Lst.step {f : Nat → Nat} {t m s x y : Nat} (h : Lst n u f t m s x) (hu : uOk n u) (hx : x ≠ t) (hy : u x = (y : Int)) : Lst n u f t m (if f x < f s then x else s) y := by
  obtain ⟨⟨d, d1, d2⟩, ⟨j, j1, ⟨i, i1, i2⟩, j3⟩, lx, ls⟩ := h
  have hd : 1 ≤ d := by
    cases d with
    | zero => exact absurd (Option.some.inj d2) hx
    | succ d => omega
  refine ⟨⟨d - 1, by omega, ug_cut (ug_one hy) (by rw [Nat.add_sub_cancel' hd]; exact d2)⟩, ⟨j + 1, ug_two j1 (ug_one hy), ?_, fun q k hq hk => ?_⟩, ug_lt hu 1 x y lx (ug_one hy), (by split <;> assumption)⟩
  · split
    · exact ⟨j + 1, Nat.le_refl _, j1⟩
    · exact ⟨i, by omega, i2⟩
  · by_cases e : q = j + 1
    · subst e
      rw [j1] at hk; cases hk
      split <;> omega
    · have := j3 q k (by omega) hk
      split <;> omega
/-- Round: the least of all that the cycle has. -/
theorem Lst.ends {f : Nat → Nat} {t m s : Nat} (h : Lst n u f t m s t) : To u t s ∧ ∀ k, To u t k → f s ≤ f k := by
  obtain ⟨-, ⟨j, j1, ⟨i, i1, i2⟩, j3⟩, -⟩ := h
  refine ⟨⟨i, i2⟩, fun k hk => ?_⟩
  obtain ⟨a, ha⟩ := hk
  have h8 := ug_many j1 (a / (j + 1))
  have h9 : ug u ((j + 1) * (a / (j + 1)) + a % (j + 1)) t = some k := by rw [Nat.div_add_mod]; exact ha
  have hmod := ug_cut h8 h9
  exact j3 (a % (j + 1)) k (by have := Nat.mod_lt a (show 0 < j + 1 by omega); omega) hmod
end
/-! Slots and ids -/
namespace Fr
variable {F : Fr}
variable (F) in
/-- The slot of the parent, where that is kept; -1: none. -/
def us (i : Nat) : Int := if F.kp i then F.nx i else -1
theorem us_ok : uOk F.n F.us := by
  intro i _
  unfold us
  split
  · rcases nx_spec (F := F) i with h | ⟨j, h1, h2, -, -⟩
    · exact .inl h
    · exact .inr ⟨j, h1, h2⟩
  · exact .inl rfl
theorem us_kp {i : Nat} (h : ¬ F.us i < 0) : F.kp i = true := by
  unfold us at h
  cases hk : F.kp i
  · rw [hk] at h; simp at h
  · rfl
theorem ug_it : ∀ (m i k : Nat), i < F.n → F.kp i = true → ug F.us m i = some k → F.it m (F.id i) = some (F.id k) ∧ k < F.n ∧ F.kp k = true
  | 0, i, k, hi, hk, h => by cases h; exact ⟨rfl, hi, hk⟩
  | m + 1, i, k, hi, hk, h => by
    have h' : (if F.us i < 0 then none else ug F.us m (F.us i).toNat) = some k := h
    unfold us at h'
    rw [hk, if_pos rfl] at h'
    rcases nx_spec (F := F) i with h1 | ⟨j, h1, h2, h3, h4⟩
    · rw [h1, if_pos (by omega)] at h'; cases h'
    · rw [h1, if_neg (by omega), Int.toNat_natCast] at h'
      obtain ⟨a, b, c⟩ := ug_it m j k h2 h3 h'
      refine ⟨?_, b, c⟩
      unfold it
      rw [stp_kp hi hk, h1, if_neg (by omega), ← h4]
      exact a
theorem it_ug : ∀ (m i y : Nat), i < F.n → F.kp i = true → F.it m (F.id i) = some y → ∃ k, k < F.n ∧ F.kp k = true ∧ F.id k = y ∧ ug F.us m i = some k
  | 0, i, y, hi, hk, h => by cases h; exact ⟨i, hi, hk, rfl, rfl⟩
  | m + 1, i, y, hi, hk, h => by
    unfold it at h
    rw [stp_kp hi hk] at h
    rcases nx_spec (F := F) i with h1 | ⟨j, h1, h2, h3, h4⟩
    · rw [h1, if_pos (by omega)] at h; cases h
    · rw [h1, if_neg (by omega), ← h4] at h
      obtain ⟨k, a, b, c, d⟩ := it_ug m j y h2 h3 h
      refine ⟨k, a, b, c, ?_⟩
      show (if F.us i < 0 then none else ug F.us m (F.us i).toNat) = some k
      have e : F.us i = (j : Int) := by unfold us; rw [hk, if_pos rfl, h1]
      rw [e, if_neg (by omega), Int.toNat_natCast]; exact d
theorem on_kp {i : Nat} (h : On F.us i) : F.kp i = true := by
  obtain ⟨m, hm, h⟩ := h
  obtain ⟨m, rfl⟩ : ∃ q, m = q + 1 := ⟨m - 1, by omega⟩
  refine us_kp fun hlt => ?_
  have h' : (if F.us i < 0 then none else ug F.us m (F.us i).toNat) = some i := h
  rw [if_pos hlt] at h'; cases h'
/-- The least of a cycle is in Cycles. -/
theorem cyc_lst (hG : F.Good) {t s : Nat} (ht : t < F.n) (ho : On F.us t) (h1 : To F.us t s) (h2 : ∀ k, To F.us t k → F.id s ≤ F.id k) : s < F.n ∧ F.cyc s = true := by
  have hk := on_kp ho
  obtain ⟨a, ha⟩ := h1
  obtain ⟨-, b, c⟩ := ug_it a t s ht hk ha
  have hb := To.back ⟨a, ha⟩ ho
  obtain ⟨p, hp⟩ := hb
  have hos : ∃ m, 1 ≤ m ∧ ug F.us m s = some s := by
    obtain ⟨m, m1, m2⟩ := ho
    exact ⟨p + m + a, by omega, ug_two (ug_two hp m2) ha⟩
  have hl : F.least s = true := by
    refine (least_iff b c).2 ⟨?_, fun j y hy => ?_⟩
    · obtain ⟨m, m1, m2⟩ := hos
      exact ⟨m, m1, (ug_it m s s b c m2).1⟩
    · obtain ⟨k, k1, k2, k3, k4⟩ := it_ug j s y b c hy
      rw [← k3]
      exact h2 k (To.trans ⟨a, ha⟩ ⟨j, k4⟩)
  refine ⟨b, ?_⟩
  have hnx : ¬ F.nx s < 0 := by
    obtain ⟨m, m1, m2⟩ := hos
    obtain ⟨m, rfl⟩ : ∃ q, m = q + 1 := ⟨m - 1, by omega⟩
    intro hlt
    have h' : (if F.us s < 0 then none else ug F.us m (F.us s).toNat) = some s := m2
    unfold us at h'
    rw [c, if_pos rfl, if_pos hlt] at h'; cases h'
  have hp0 : F.pa s ≠ 0 := In.nz hG (nx_in.1 hnx)
  unfold cyc want
  rw [c, hl, decide_eq_false hnx, beq_eq_false_iff_ne.2 hp0]; rfl
/-- What is in Cycles lies on a cycle, and is its least. -/
theorem cyc_on {k : Nat} (hk : k < F.n) (h : F.cyc k = true) : F.kp k = true ∧ On F.us k ∧ ∀ s, To F.us k s → F.id k ≤ F.id s := by
  unfold cyc at h
  simp at h
  have hkp := (want_kp h.1.1).1
  obtain ⟨⟨m, m1, m2⟩, h2⟩ := (least_iff hk hkp).1 h.2
  refine ⟨hkp, ?_, fun s hs => ?_⟩
  · obtain ⟨q, q1, q2, q3, q4⟩ := it_ug m k _ hk hkp m2
    obtain rfl := kp_one q2 hkp q3
    exact ⟨m, m1, q4⟩
  · obtain ⟨a, ha⟩ := hs
    exact h2 a _ (ug_it a k s hk hkp ha).1
/-- The slots of the least ids of the first few cycles. -/
def LsOf (F : Fr) (m s : Nat) : Prop := To F.us m s ∧ ∀ k, To F.us m k → F.id s ≤ F.id k
/-- Lists that rise and have the same members are the same. -/
theorem rise_unique : ∀ {a b : List Nat}, a.Pairwise (· < ·) → b.Pairwise (· < ·) → (∀ k, k ∈ a ↔ k ∈ b) → a = b
  | [], [], _, _, _ => rfl
  | [], y :: b, _, _, h => absurd ((h y).2 List.mem_cons_self) (by simp)
  | x :: a, [], _, _, h => absurd ((h x).1 List.mem_cons_self) (by simp)
  | x :: a, y :: b, ha, hb, h => by
    rw [List.pairwise_cons] at ha hb
    have hxy : x = y := by
      rcases List.mem_cons.1 ((h x).1 List.mem_cons_self) with e | e
      · exact e
      · rcases List.mem_cons.1 ((h y).2 List.mem_cons_self) with e2 | e2
        · exact e2.symm
        · have h1 := hb.1 x e
          have h2 := ha.1 y e2
          omega
    subst hxy
    congr 1
    refine rise_unique ha.2 hb.2 fun k => ⟨fun hk => ?_, fun hk => ?_⟩
    · rcases List.mem_cons.1 ((h k).1 (List.mem_cons_of_mem _ hk)) with e | e
      · subst e; exact absurd (ha.1 k hk) (Nat.lt_irrefl _)
      · exact e
    · rcases List.mem_cons.1 ((h k).2 (List.mem_cons_of_mem _ hk)) with e | e
      · subst e; exact absurd (hb.1 k hk) (Nat.lt_irrefl _)
      · exact e
theorem lsOf_mem (hG : F.Good) {W : Nat → Nat} {M S : List Nat} (hR : Rnd F.n F.us W F.n M) (hl : S.length = M.length) (hS : ∀ (i m s : Nat), M[i]? = some m → S[i]? = some s → LsOf F m s) : ∀ k, k ∈ S ↔ k ∈ sel F.cyc F.n := by
  intro k
  rw [sel_mem]
  constructor
  · intro hk
    obtain ⟨i, hi, e⟩ := List.mem_iff_getElem.1 hk
    have hm : M[i]? = some (M[i]'(by omega)) := List.getElem?_eq_getElem (by omega)
    have h9 := hS i _ k hm (by rw [List.getElem?_eq_getElem hi, e])
    have hmm := hR.mem _ (List.mem_of_getElem? hm)
    exact cyc_lst hG hmm.1 hmm.2.2 h9.1 h9.2
  · rintro ⟨hk, hc⟩
    obtain ⟨c1, c2, c3⟩ := cyc_on hk hc
    obtain ⟨m, m1, m2⟩ := hR.all k hk (hR.low k hk) c2
    obtain ⟨i, hi, e⟩ := List.mem_iff_getElem.1 m1
    have hm : M[i]? = some m := by rw [List.getElem?_eq_getElem hi, e]
    have hs : S[i]? = some (S[i]'(by omega)) := List.getElem?_eq_getElem (by omega)
    obtain ⟨s1, s2⟩ := hS i m _ hm hs
    have e9 : F.id (S[i]'(by omega)) = F.id k := Nat.le_antisymm (s2 k (m2.back c2)) (c3 _ (m2.trans s1))
    have hmm := hR.mem m m1
    obtain ⟨a, ha⟩ := s1
    have hks := (ug_it a m _ hmm.1 (on_kp hmm.2.2) ha).2.2
    rw [← kp_one hks c1 e9]
    exact List.mem_of_getElem? hs
theorem lsOf_nodup {W : Nat → Nat} {M S : List Nat} (hR : Rnd F.n F.us W F.n M) (hl : S.length = M.length) (hS : ∀ (i m s : Nat), M[i]? = some m → S[i]? = some s → LsOf F m s) : S.Nodup := by
  refine List.pairwise_iff_getElem.2 fun i j hi hj hij e => ?_
  have hmi : M[i]? = some (M[i]'(by omega)) := List.getElem?_eq_getElem (by omega)
  have hmj : M[j]? = some (M[j]'(by omega)) := List.getElem?_eq_getElem (by omega)
  have h1 := hS i _ _ hmi (List.getElem?_eq_getElem hi)
  have h2 := hS j _ _ hmj (List.getElem?_eq_getElem hj)
  have hmm := hR.mem _ (List.mem_of_getElem? hmj)
  refine List.pairwise_iff_getElem.1 hR.one i j (by omega) (by omega) hij ?_
  rw [← e] at h2
  exact h1.1.trans (h2.1.back hmm.2.2)
end Fr
end Go.Proofs.Ytligjfofnafjeaa
