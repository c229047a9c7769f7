
import Derived.Test.YtligjfofnafjeaaForM
namespace Go.Proofs.Ytligjfofnafjeaa
namespace Fr

/-! What is kept is a forest; when a list is one; how many parents go -/
variable {F : Fr}
theorem want_kp {i : Nat} (h : F.want i = true) : F.kp i = true ∧ F.pa i ≠ 0 := by
  unfold want at h
  simp at h
  exact h
theorem In.nz {x : Nat} (hG : F.Good) (h : F.In x) : x ≠ 0 := by
  obtain ⟨i, -, h2, rfl⟩ := h
  have := kp_cd h2
  unfold cd at this
  simp at this
  exact hG i this.1
theorem nx_in {i : Nat} : ¬ F.nx i < 0 ↔ F.In (F.pa i) := by
  constructor
  · intro h
    rcases nx_spec (F := F) i with h1 | ⟨j, -, h2, h3, h4⟩
    · rw [h1] at h; exact absurd (by omega) h
    · exact ⟨j, h2, h3, h4⟩
  · rintro ⟨j, h2, h3, h4⟩
    unfold nx
    rw [← h4, at_kp h2 h3]; omega
theorem sel_mem {p : Nat → Bool} {n i : Nat} : i ∈ sel p n ↔ i < n ∧ p i = true := by
  unfold sel; simp
theorem sel_rise {p : Nat → Bool} {n : Nat} : (sel p n).Pairwise (· < ·) := by
  unfold sel
  exact List.Pairwise.filter _ List.pairwise_lt_range
/-- G has the kept ones of F alone, with the parents that they will have. -/
structure IsLeft (F G : Fr) : Prop where
  n : G.n = (sel F.kp F.n).length
  here : ∀ i, i < G.n → ∃ k, (sel F.kp F.n)[i]? = some k ∧ G.ok i = true ∧ G.la i = true ∧ G.id i = F.id k ∧ G.pa i = F.par k
variable {G : Fr}
theorem left_at (hL : IsLeft F G) {i : Nat} (h : i < G.n) : ∃ k, (sel F.kp F.n)[i]? = some k ∧ k < F.n ∧ F.kp k = true ∧ G.id i = F.id k ∧ G.pa i = F.par k := by
  obtain ⟨k, h1, -, -, h4, h5⟩ := hL.here i h
  have hm := sel_mem.1 (List.mem_of_getElem? h1)
  exact ⟨k, h1, hm.1, hm.2, h4, h5⟩
theorem left_cd (hL : IsLeft F G) {i : Nat} (h : i < G.n) : G.cd i = true := by
  obtain ⟨k, -, h2, h3, -⟩ := hL.here i h
  unfold cd; rw [h2, h3]; rfl
theorem left_low (hL : IsLeft F G) {i : Nat} (h : i < G.n) : G.lower i = false := by
  cases hl : G.lower i
  · rfl
  · exfalso
    obtain ⟨j, h1, -, h3⟩ := lower_iff.1 hl
    obtain ⟨a, a1, -, a3, a4, -⟩ := left_at hL h
    obtain ⟨b, b1, -, b3, b4, -⟩ := left_at hL (show j < G.n by omega)
    rw [a4, b4] at h3
    obtain rfl := kp_one b3 a3 h3
    have h8 := List.pairwise_iff_getElem.1 (sel_rise (p := F.kp) (n := F.n)) j i (List.getElem?_eq_some_iff.1 b1).1 (List.getElem?_eq_some_iff.1 a1).1 h1
    rw [(List.getElem?_eq_some_iff.1 a1).2, (List.getElem?_eq_some_iff.1 b1).2] at h8
    omega
theorem left_kp (hL : IsLeft F G) {i : Nat} (h : i < G.n) : G.kp i = true := by
  unfold kp
  rw [left_cd hL h, left_low hL h]; rfl
theorem left_in (hL : IsLeft F G) {x : Nat} : G.In x ↔ F.In x := by
  constructor
  · rintro ⟨i, h1, -, h3⟩
    obtain ⟨k, -, k2, k3, k4, -⟩ := left_at hL h1
    exact ⟨k, k2, k3, by rw [← k4, h3]⟩
  · rintro ⟨k, h1, h2, h3⟩
    obtain ⟨i, hi, e⟩ := List.mem_iff_getElem.1 (sel_mem.2 ⟨h1, h2⟩)
    have hi' : i < G.n := by rw [hL.n]; exact hi
    refine ⟨i, hi', left_kp hL hi', ?_⟩
    obtain ⟨k', k1, -, -, k4, -⟩ := left_at hL hi'
    rw [List.getElem?_eq_getElem hi, e] at k1
    cases k1
    rw [k4, h3]
/-- What the parent of a kept one will be. -/
theorem par_some {i : Nat} (h : F.par i ≠ 0) : F.par i = F.pa i ∧ F.kp i = true ∧ F.In (F.pa i) ∧ F.least i = false := by
  unfold par at h ⊢
  cases hb : (F.want i && !decide (F.nx i < 0) && !F.least i)
  · rw [hb] at h; exact absurd rfl h
  · simp at hb
    exact ⟨rfl, (want_kp hb.1.1).1, nx_in.1 (by omega), hb.2⟩
theorem left_stp (hL : IsLeft F G) {x y : Nat} (hG : F.Good) (h : G.stp x = some y) : F.stp x = some y ∧ ∀ k, k < F.n → F.kp k = true → F.id k = x → F.least k = false := by
  obtain ⟨i, j, i1, -, i3, i4, -, j2, -, j4⟩ := stp_in h
  obtain ⟨k, -, k2, k3, k4, k5⟩ := left_at hL i1
  have hy : y ≠ 0 := In.nz hG ((left_in hL).1 ⟨j, j2, left_kp hL j2, j4⟩)
  rw [k5] at i4
  obtain ⟨p1, p2, p3, p4⟩ := par_some (by rw [i4]; exact hy)
  rw [k4] at i3
  constructor
  · rw [← i3, stp_kp k2 k3, if_neg (nx_in.2 p3), ← p1, i4]
  · intro q hq hkq e
    obtain rfl := kp_one hkq k3 (e.trans i3.symm)
    exact p4
theorem left_it (hL : IsLeft F G) (hG : F.Good) : ∀ {m x y : Nat}, G.it m x = some y → F.it m x = some y
  | 0, _, _, h => h
  | m + 1, x, y, h => by
    unfold it at h ⊢
    cases hs : G.stp x with
    | none => rw [hs] at h; cases h
    | some z =>
      rw [hs] at h
      rw [(left_stp hL hG hs).1]
      exact left_it hL hG h
/-- No cycle is left. -/
theorem left_free (hL : IsLeft F G) (hG : F.Good) {x m : Nat} (hm : 1 ≤ m) (h : G.it m x = some x) : False := by
  obtain ⟨m', rfl⟩ : ∃ q, m = q + 1 := ⟨m - 1, by omega⟩
  have hx : F.In x := by
    unfold it at h
    cases hs : G.stp x with
    | none => rw [hs] at h; cases h
    | some z =>
      obtain ⟨i, j, i1, i2, i3, -⟩ := stp_in hs
      exact (left_in hL).1 ⟨i, i1, i2, i3⟩
  obtain ⟨i, j, i1, i2, i3, i4⟩ := least_of hx hm (left_it hL hG h)
  have hle : j ≤ (m' + 1) * j := Nat.le_mul_of_pos_left j (by omega)
  have hj : ∃ y, G.it j x = some y := by
    cases hq : G.it j x with
    | some y => exact ⟨y, rfl⟩
    | none =>
      have h2 := it_many h j
      rw [← Nat.add_sub_cancel' hle, it_add, hq] at h2
      cases h2
  obtain ⟨y, hy⟩ := hj
  have e := left_it hL hG hy
  rw [i3] at e
  cases e
  have h3 := it_turn h hy
  unfold it at h3
  cases hs : G.stp (F.id i) with
  | none => rw [hs] at h3; cases h3
  | some z =>
    have := (left_stp hL hG hs).2 i i1 i2 rfl
    rw [i4] at this; cases this
/-- Of what is left nothing more goes. -/
theorem left_noPa (hL : IsLeft F G) {i : Nat} (h : i < G.n) : G.noPa i = false := by
  cases hn : G.noPa i
  · rfl
  · exfalso
    unfold noPa at hn
    simp at hn
    obtain ⟨k, -, k2, k3, k4, k5⟩ := left_at hL h
    have hw := want_kp hn.1
    rw [k5] at hw
    obtain ⟨p1, p2, p3, p4⟩ := par_some hw.2
    have : G.In (G.pa i) := (left_in hL).2 (by rw [k5, p1]; exact p3)
    exact nx_in.2 this hn.2
theorem left_least (hL : IsLeft F G) (hG : F.Good) {i : Nat} (h : i < G.n) : G.least i = false := by
  cases hn : G.least i
  · rfl
  · exfalso
    obtain ⟨⟨m, m1, m2⟩, -⟩ := (least_iff h (left_kp hL h)).1 hn
    exact left_free hL hG m1 m2
theorem left_cyc (hL : IsLeft F G) (hG : F.Good) {i : Nat} (h : i < G.n) : G.cyc i = false := by
  unfold cyc; rw [left_least hL hG h, Bool.and_false]
theorem left_par (hL : IsLeft F G) (hG : F.Good) {i : Nat} (h : i < G.n) : G.par i = G.pa i := by
  unfold par
  by_cases h0 : G.pa i = 0
  · rw [h0]
    cases (G.want i && !decide (G.nx i < 0) && !G.least i) <;> rfl
  · have hw : G.want i = true := by
      unfold want
      rw [left_kp hL h]
      simp [h0]
    have hn := left_noPa hL h
    unfold noPa at hn
    rw [hw, Bool.true_and] at hn
    rw [hw, hn, left_least hL hG h]; rfl
theorem left_twice (hL : IsLeft F G) {i : Nat} (h : i < G.n) : G.twice i = false := by unfold twice; rw [left_low hL h, Bool.and_false]
theorem left_noLa (hL : IsLeft F G) {i : Nat} (h : i < G.n) : G.noLa i = false := by
  obtain ⟨k, -, -, h3, -⟩ := hL.here i h
  unfold noLa; rw [h3, Bool.not_true, Bool.and_false]
/-- Parents that go: none there, or the least of a cycle. -/
theorem par_goes {i : Nat} (h : F.kp i = true) : (!(F.par i == F.pa i)) = (F.noPa i || F.cyc i) := by
  unfold par noPa cyc want
  rw [h]
  by_cases h0 : F.pa i = 0
  · rw [h0]
    cases decide (F.nx i < 0) <;> cases F.least i <;> rfl
  · have e : (F.pa i == 0) = false := beq_eq_false_iff_ne.2 h0
    rw [e]
    have e2 : ((0 : Nat) == F.pa i) = false := beq_eq_false_iff_ne.2 (Ne.symm h0)
    cases decide (F.nx i < 0) <;> cases F.least i <;> simp [e2]
theorem noPa_cyc (i : Nat) : (F.noPa i && F.cyc i) = false := by
  unfold noPa cyc
  cases F.want i <;> cases decide (F.nx i < 0) <;> rfl
theorem sel_sum {p q r : Nat → Bool} : ∀ (n : Nat), (∀ i, i < n → r i = (p i || q i)) → (∀ i, i < n → (p i && q i) = false) → (sel r n).length = (sel p n).length + (sel q n).length
  | 0, _, _ => rfl
  | n + 1, h1, h2 => by
    have ih := sel_sum n (fun i hi => h1 i (by omega)) (fun i hi => h2 i (by omega))
    have a := h1 n (by omega)
    have b := h2 n (by omega)
    rw [sel_succ, sel_succ, sel_succ, List.length_append, List.length_append, List.length_append, ih, a]
    cases hp : p n <;> cases hq : q n
    · simp
    · simp; omega
    · simp; omega
    · rw [hp, hq] at b; cases b
/-! When a list of snapshots is a forest -/
variable (F) in
/-- All are there, with layers, whatever their ids. -/
def Plain : Prop := (∀ i, F.ok i = decide (i < F.n ∧ F.id i ≠ 0)) ∧ ∀ i, F.la i = true
variable (F) in
def isF : Bool := (sel (fun i => F.id i == 0) F.n).isEmpty && (sel F.twice F.n).isEmpty && (sel F.noPa F.n).isEmpty && (sel F.cyc F.n).isEmpty
variable (F) in
/-- Does following parents from slot i come to an end, within f slots? -/
def up : Nat → Nat → Bool
  | 0, _ => false
  | f + 1, i => if F.pa i = 0 then true else if F.nx i < 0 then false else up f (F.nx i).toNat
theorem cyc_of {x m : Nat} (hG : F.Good) (hx : F.In x) (hm : 1 ≤ m) (h : F.it m x = some x) : ∃ i, i < F.n ∧ F.cyc i = true := by
  obtain ⟨i, j, i1, i2, i3, i4⟩ := least_of hx hm h
  refine ⟨i, i1, ?_⟩
  have h1 := it_turn h i3
  obtain ⟨m', rfl⟩ : ∃ q, m = q + 1 := ⟨m - 1, by omega⟩
  unfold it at h1
  cases hs : F.stp (F.id i) with
  | none => rw [hs] at h1; cases h1
  | some z =>
    have hz := hs
    rw [stp_kp i1 i2] at hs
    obtain ⟨a, b, a1, a2, a3, a4, -, b2, b3, b4⟩ := stp_in hz
    by_cases hn : F.nx i < 0
    · rw [if_pos hn] at hs; cases hs
    · rw [if_neg hn] at hs
      have hp : F.pa i ≠ 0 := In.nz hG (nx_in.1 hn)
      unfold cyc want
      rw [i2, i4, decide_eq_false hn, beq_eq_false_iff_ne.2 hp]; rfl
theorem up_not (hN : ∀ i, i < F.n → F.noPa i = false) : ∀ (f i : Nat), i < F.n → F.kp i = true → F.up f i = false → ∃ y, F.it f (F.id i) = some y
  | 0, i, _, _, _ => ⟨_, rfl⟩
  | f + 1, i, hi, hk, h => by
    unfold up at h
    by_cases h0 : F.pa i = 0
    · rw [if_pos h0] at h; cases h
    · rw [if_neg h0] at h
      have hn := hN i hi
      unfold noPa want at hn
      rw [hk, beq_eq_false_iff_ne.2 h0] at hn
      have hn' : ¬ F.nx i < 0 := by simpa using hn
      rw [if_neg hn'] at h
      rcases nx_spec (F := F) i with h1 | ⟨j, h1, h2, h3, h4⟩
      · rw [h1] at hn'; exact absurd (by omega) hn'
      · rw [h1, Int.toNat_natCast] at h
        obtain ⟨y, hy⟩ := up_not hN f j h2 h3 h
        refine ⟨y, ?_⟩
        unfold it
        rw [stp_kp hi hk, if_neg hn', ← h4]
        exact hy
theorem it_pre {a b x y : Nat} (h : F.it (a + b) x = some y) : ∃ z, F.it a x = some z := by
  rw [it_add] at h
  cases hq : F.it a x with
  | none => rw [hq] at h; cases h
  | some z => exact ⟨z, rfl⟩
/-- A way of n steps comes to a cycle. -/
theorem long_cyc {x y : Nat} (hx : F.In x) (h : F.it F.n x = some y) : ∃ z m, F.In z ∧ 1 ≤ m ∧ F.it m z = some z := by
  have hsl : ∀ j, j ≤ F.n → ∃ i, i < F.n ∧ F.it j x = some (F.id i) := fun j hj => by
    have h' : F.it (j + (F.n - j)) x = some y := by rw [Nat.add_sub_cancel' hj]; exact h
    obtain ⟨z, hz⟩ := it_pre h'
    obtain ⟨i, h1, -, h3⟩ := it_in hx hz
    exact ⟨i, h1, by rw [hz, h3]⟩
  have hsl2 : ∀ j, ∃ i, i < F.n + 0 ∧ (j ≤ F.n → F.it j x = some (F.id i)) := fun j => by
    by_cases hj : j ≤ F.n
    · obtain ⟨i, h1, h2⟩ := hsl j hj
      exact ⟨i, h1, fun _ => h2⟩
    · obtain ⟨i, h1, -, -⟩ := hx
      exact ⟨i, h1, fun h => absurd h hj⟩
  obtain ⟨i, j, hij, hj, e⟩ := pigeon F.n (fun j => (hsl2 j).choose) (fun j _ => (hsl2 j).choose_spec.1)
  have e1 := (hsl2 i).choose_spec.2 (by omega)
  have e2 := (hsl2 j).choose_spec.2 hj
  have e' : (hsl2 i).choose = (hsl2 j).choose := e
  rw [← e'] at e2
  refine ⟨_, j - i, it_in hx e1, by omega, it_cut e1 ?_⟩
  rw [Nat.add_sub_cancel' (Nat.le_of_lt hij)]; exact e2
theorem up_never (hG : F.Good) : ∀ (f i : Nat), i < F.n → F.kp i = true → (∀ j, ∃ y, F.it j (F.id i) = some y) → F.up f i = false
  | 0, _, _, _, _ => rfl
  | f + 1, i, hi, hk, h => by
    unfold up
    obtain ⟨y, hy⟩ := h 1
    unfold it at hy
    rw [stp_kp hi hk] at hy
    by_cases hn : F.nx i < 0
    · rw [if_pos hn] at hy; cases hy
    · have hp : F.pa i ≠ 0 := In.nz hG (nx_in.1 hn)
      rw [if_neg hp, if_neg hn]
      rcases nx_spec (F := F) i with h1 | ⟨j, h1, h2, h3, h4⟩
      · rw [h1] at hn; exact absurd (by omega) hn
      · rw [h1, Int.toNat_natCast]
        refine up_never hG f j h2 h3 (fun a => ?_)
        obtain ⟨z, hz⟩ := h (a + 1)
        unfold it at hz
        rw [stp_kp hi hk, if_neg hn, ← h4] at hz
        exact ⟨z, hz⟩
/-- A list with ids that are not 0 and stand once is a forest just if from each one the parents come to an end. -/
theorem up_iff (hG : F.Good) (hK : ∀ i, i < F.n → F.kp i = true) : (∀ i, i < F.n → F.up (F.n + 1) i = true) ↔ (∀ i, i < F.n → F.noPa i = false) ∧ ∀ i, i < F.n → F.cyc i = false := by
  constructor
  · intro h
    refine ⟨fun i hi => ?_, fun i hi => ?_⟩
    · cases hn : F.noPa i
      · rfl
      · exfalso
        unfold noPa at hn
        simp at hn
        have h0 := (want_kp hn.1).2
        have := h i hi
        unfold up at this
        rw [if_neg h0, if_pos hn.2] at this
        cases this
    · cases hc : F.cyc i
      · rfl
      · exfalso
        unfold cyc at hc
        simp at hc
        obtain ⟨⟨m, m1, m2⟩, -⟩ := (least_iff hi (hK i hi)).1 hc.2
        have hall : ∀ j, ∃ y, F.it j (F.id i) = some y := fun j => by
          have hle : j ≤ m * j := Nat.le_mul_of_pos_left j m1
          have h1 := it_many m2 j
          rw [← Nat.add_sub_cancel' hle] at h1
          exact it_pre h1
        have h9 := h i hi
        rw [up_never hG (F.n + 1) i hi (hK i hi) hall] at h9
        cases h9
  · rintro ⟨h1, h2⟩ i hi
    cases hu : F.up (F.n + 1) i
    · exfalso
      obtain ⟨y, hy⟩ := up_not h1 (F.n + 1) i hi (hK i hi) hu
      obtain ⟨z, hz⟩ := it_pre hy
      obtain ⟨x, m, x1, x2, x3⟩ := long_cyc ⟨i, hi, hK i hi, rfl⟩ hz
      obtain ⟨q, q1, q2⟩ := cyc_of hG x1 x2 x3
      rw [h2 q q1] at q2; cases q2
    · rfl
end Fr
end Go.Proofs.Ytligjfofnafjeaa
