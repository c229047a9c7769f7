
import Derived.Test.YtmbkkdojjfdliaaBatN
namespace Go.Proofs.Ytmbkkdojjfdliaa
open Go.RowKit

/-! Stable sorting: what is in order (Srd), what has for each sector the same writes one behind the other (Sim) -/
def Srd (l : List Wr) : Prop := l.Pairwise (fun a b => a.1 ≤ b.1)
def Sim (l r : List Wr) : Prop := ∀ k : Int, l.filter (fun x => x.1 == k) = r.filter (fun x => x.1 == k)
theorem Sim.refl (l : List Wr) : Sim l l := fun _ => rfl
theorem Sim.trans {l m r : List Wr} (h : Sim l m) (k : Sim m r) : Sim l r := fun a => (h a).trans (k a)
theorem Sim.symm {l r : List Wr} (h : Sim l r) : Sim r l := fun a => (h a).symm
theorem Sim.app {a b c d : List Wr} (h : Sim a b) (k : Sim c d) : Sim (a ++ c) (b ++ d) := fun q => by rw [List.filter_append, List.filter_append, h q, k q]
theorem Sim.mem {l r : List Wr} (h : Sim l r) {x : Wr} (hx : x ∈ r) : x ∈ l := by
  have : x ∈ r.filter (fun y => y.1 == x.1) := List.mem_filter.2 ⟨hx, by simp⟩
  rw [← h x.1] at this
  exact (List.mem_filter.1 this).1
theorem Sim.turn {X Y : List Wr} (h : ∀ x ∈ X, ∀ y ∈ Y, x.1 ≠ y.1) : Sim (X ++ Y) (Y ++ X) := fun k => by
  rw [List.filter_append, List.filter_append]
  by_cases hx : ∃ x ∈ X, x.1 = k
  · obtain ⟨x, hx, rfl⟩ := hx
    have : Y.filter (fun y => y.1 == x.1) = [] := List.filter_eq_nil_iff.2 (fun y hy => by simp; exact fun e => h x hx y hy e.symm)
    rw [this]; simp
  · have : X.filter (fun y => y.1 == k) = [] := List.filter_eq_nil_iff.2 (fun y hy => by simp; exact fun e => hx ⟨y, hy, e⟩)
    rw [this]; simp
theorem Srd.app {a b : List Wr} (ha : Srd a) (hb : Srd b) (h : ∀ x ∈ a, ∀ y ∈ b, x.1 ≤ y.1) : Srd (a ++ b) := List.pairwise_append.2 ⟨ha, hb, h⟩
theorem Srd.left {a b : List Wr} (h : Srd (a ++ b)) : Srd a := (List.pairwise_append.1 h).1
theorem Srd.right {a b : List Wr} (h : Srd (a ++ b)) : Srd b := (List.pairwise_append.1 h).2.1
theorem Srd.cross {a b : List Wr} (h : Srd (a ++ b)) : ∀ x ∈ a, ∀ y ∈ b, x.1 ≤ y.1 := (List.pairwise_append.1 h).2.2
theorem Srd.one (x : Wr) : Srd [x] := List.pairwise_singleton _ _
theorem Srd.nil : Srd [] := List.Pairwise.nil
theorem Srd.last {a : List Wr} {z : Wr} (h : Srd (a ++ [z])) : ∀ x ∈ a ++ [z], x.1 ≤ z.1 := fun x hx => by
  rcases List.mem_append.1 hx with h1 | h1
  · exact h.cross x h1 z (by simp)
  · simp at h1; subst h1; exact Int.le_refl _
theorem Srd.first {a : List Wr} {z : Wr} (h : Srd (z :: a)) : ∀ x ∈ z :: a, z.1 ≤ x.1 := fun x hx => by
  rcases List.mem_cons.1 hx with rfl | h1
  · exact Int.le_refl _
  · exact (List.pairwise_cons.1 h).1 x h1
/-! A write that is moved to its place -/
/-- x behind those of Y that are less. -/
theorem move_right (x : Wr) (Y1 Y2 : List Wr) (hY : Srd (Y1 ++ Y2)) (h1 : ∀ y ∈ Y1, y.1 < x.1) (h2 : ∀ y ∈ Y2, x.1 ≤ y.1) : Srd (Y1 ++ x :: Y2) ∧ Sim (x :: (Y1 ++ Y2)) (Y1 ++ x :: Y2) := by
  refine ⟨hY.left.app (List.pairwise_cons.2 ⟨h2, hY.right⟩) ?_, ?_⟩
  · intro a ha b hb
    rcases List.mem_cons.1 hb with rfl | hb
    · have := h1 a ha; omega
    · exact hY.cross a ha b hb
  · have := (Sim.turn (X := [x]) (Y := Y1) (fun a ha b hb => by simp at ha; subst ha; have := h1 b hb; omega)).app (Sim.refl Y2)
    simpa using this
/-- x ahead of those of X that are greater. -/
theorem move_left (x : Wr) (X1 X2 : List Wr) (hX : Srd (X1 ++ X2)) (h1 : ∀ y ∈ X1, y.1 ≤ x.1) (h2 : ∀ y ∈ X2, x.1 < y.1) : Srd (X1 ++ x :: X2) ∧ Sim (X1 ++ X2 ++ [x]) (X1 ++ x :: X2) := by
  refine ⟨hX.left.app (List.pairwise_cons.2 ⟨fun y hy => by have := h2 y hy; omega, hX.right⟩) ?_, ?_⟩
  · intro a ha b hb
    rcases List.mem_cons.1 hb with rfl | hb
    · exact h1 a ha
    · exact hX.cross a ha b hb
  · have := (Sim.refl X1).app (Sim.turn (X := X2) (Y := [x]) (fun a ha b hb => by simp at hb; subst hb; have := h2 a ha; omega))
    simpa using this
/-! Merging by turning the middle -/
theorem sym_merge {A1 X Y B2 L R : List Wr} (hA : Srd (A1 ++ X)) (hB : Srd (Y ++ B2)) (hXY : ∀ x ∈ X, ∀ y ∈ Y, y.1 < x.1) (hAB : ∀ x ∈ A1, ∀ y ∈ B2, x.1 ≤ y.1) (hL : Srd L) (hR : Srd R) (sL : Sim (A1 ++ Y) L) (sR : Sim (X ++ B2) R) : Srd (L ++ R) ∧ Sim (A1 ++ X ++ (Y ++ B2)) (L ++ R) := by
  refine ⟨hL.app hR ?_, ?_⟩
  · intro a ha b hb
    have ha := sL.mem ha
    have hb := sR.mem hb
    rcases List.mem_append.1 ha with ha | ha <;> rcases List.mem_append.1 hb with hb | hb
    · exact hA.cross a ha b hb
    · exact hAB a ha b hb
    · have := hXY b hb a ha; omega
    · exact hB.cross a ha b hb
  · refine Sim.trans ?_ (sL.app sR)
    have := ((Sim.refl A1).app (Sim.turn (X := X) (Y := Y) (fun x hx y hy => by have := hXY x hx y hy; omega))).app (Sim.refl B2)
    simpa using this
/-! Runs -/
def Runs (c : Nat) (l : List Wr) : Prop := ∀ k : Nat, Srd ((l.drop (k * c)).take c)
theorem Runs.nil (c : Nat) : Runs c [] := fun k => by simp [Srd]
theorem Runs.app {c t : Nat} {D M : List Wr} (hD : D.length = t * c) (h : Runs c D) (hM : Srd M) (hl : M.length ≤ c) : Runs c (D ++ M) := fun k => by
  rcases Nat.lt_trichotomy k t with hk | rfl | hk
  · have hc : (k + 1) * c ≤ t * c := Nat.mul_le_mul_right c hk
    rw [Nat.add_mul, Nat.one_mul] at hc
    rw [List.drop_append_of_le_length (by omega), List.take_append_of_le_length (by rw [List.length_drop]; omega)]
    exact h k
  · rw [List.drop_left' hD, List.take_of_length_le hl]; exact hM
  · have hc : (t + 1) * c ≤ k * c := Nat.mul_le_mul_right c hk
    rw [Nat.add_mul, Nat.one_mul] at hc
    rw [List.drop_eq_nil_of_le (by rw [List.length_append]; omega)]
    simp [Srd]
theorem Runs.drop {c : Nat} {l : List Wr} (h : Runs c l) (j : Nat) : Runs c (l.drop (j * c)) := fun k => by
  rw [List.drop_drop, ← Nat.add_mul]; exact h (j + k)
theorem Runs.all {c : Nat} {l : List Wr} (h : Runs c l) (hl : l.length ≤ c) : Srd l := by
  have := h 0
  rwa [Nat.zero_mul, List.drop_zero, List.take_of_length_le hl] at this
/-! Of neighbours at one sector the first -/
def goW (p : Int) : List Wr → List Wr
  | [] => []
  | y :: r => if y.1 = p then goW y.1 r else y :: goW y.1 r
def cmpW : List Wr → List Wr
  | [] => []
  | x :: r => x :: goW x.1 r
theorem goW_snoc (p : Int) : ∀ (l : List Wr) (y : Wr), goW p (l ++ [y]) = goW p l ++ (if y.1 = ((l.map Prod.fst).getLast?.getD p) then [] else [y])
  | [], y => by simp only [List.nil_append, goW, List.map_nil, List.getLast?_nil, Option.getD_none]
  | x :: r, y => by
    have ih := goW_snoc x.1 r y
    have e : ((x :: r).map Prod.fst).getLast?.getD p = (r.map Prod.fst).getLast?.getD x.1 := by
      cases r with
      | nil => rfl
      | cons z s => simp only [List.map_cons]; rw [List.getLast?_cons_cons]; simp [List.getLast?_cons]
    rw [List.cons_append, goW, goW, e, ih]
    split
    · rfl
    · simp
theorem cmpW_snoc (l : List Wr) (z y : Wr) : cmpW (l ++ [z] ++ [y]) = cmpW (l ++ [z]) ++ (if y.1 = z.1 then [] else [y]) := by
  cases l with
  | nil => simp only [List.nil_append, List.cons_append, cmpW, goW]
  | cons x r =>
    rw [List.cons_append, List.cons_append, cmpW, cmpW, goW_snoc]
    simp
theorem cmpW_take (l : List Wr) (i : Nat) (z y : Wr) (hz : l[i]? = some z) (hy : l[i + 1]? = some y) : cmpW (l.take (i + 2)) = cmpW (l.take (i + 1)) ++ (if y.1 = z.1 then [] else [y]) := by
  rw [List.take_add_one (i := i + 1), hy, List.take_add_one (i := i), hz]
  exact cmpW_snoc _ z y
theorem goW_len (p : Int) : ∀ l : List Wr, (goW p l).length ≤ l.length
  | [] => Nat.le_refl _
  | y :: r => by
    have := goW_len y.1 r
    unfold goW
    split
    · rw [List.length_cons]; omega
    · rw [List.length_cons, List.length_cons]; omega
theorem cmpW_len (l : List Wr) : (cmpW l).length ≤ l.length := by
  cases l with
  | nil => exact Nat.le_refl _
  | cons x r => have := goW_len x.1 r; rw [cmpW, List.length_cons, List.length_cons]; omega
theorem goW_mem : ∀ (r : List Wr) (p d : Wr), Srd (p :: r) → (d ∈ goW p.1 r ↔ d.1 ≠ p.1 ∧ (r.filter (fun x => x.1 == d.1)).head? = some d)
  | [], p, d, _ => by simp [goW]
  | y :: r, p, d, h => by
    obtain ⟨h1, h2⟩ := List.pairwise_cons.1 h
    have ih := goW_mem r y d h2
    have hpy := h1 y (by simp)
    unfold goW
    split
    · rename_i e
      rw [ih, e]
      constructor
      · rintro ⟨q1, q2⟩
        refine ⟨q1, ?_⟩
        rw [List.filter_cons, if_neg (by simp; omega)]
        exact q2
      · rintro ⟨q1, q2⟩
        rw [List.filter_cons, if_neg (by simp; omega)] at q2
        exact ⟨q1, q2⟩
    · rename_i e
      rw [List.mem_cons, ih]
      by_cases hd : d.1 = y.1
      · rw [List.filter_cons, if_pos (by simp [hd])]
        constructor
        · rintro (rfl | ⟨q1, -⟩)
          · exact ⟨e, rfl⟩
          · exact absurd hd q1
        · rintro ⟨-, q⟩
          simp at q
          exact .inl q.symm
      · rw [List.filter_cons, if_neg (by simp; omega)]
        constructor
        · rintro (rfl | ⟨-, q⟩)
          · exact absurd rfl hd
          · refine ⟨?_, q⟩
            have hm : d ∈ r := (List.mem_filter.1 (List.mem_of_head? q)).1
            have := (List.pairwise_cons.1 h2).1 d hm
            omega
        · rintro ⟨-, q⟩
          exact .inr ⟨hd, q⟩
theorem cmpW_mem (l : List Wr) (d : Wr) (h : Srd l) : d ∈ cmpW l ↔ (l.filter (fun x => x.1 == d.1)).head? = some d := by
  cases l with
  | nil => simp [cmpW]
  | cons x r =>
    rw [cmpW, List.mem_cons, goW_mem r x d h, List.filter_cons]
    by_cases e : x.1 = d.1
    · rw [if_pos (by simp [e])]
      constructor
      · rintro (rfl | ⟨q, -⟩)
        · rfl
        · exact absurd e.symm q
      · intro q
        simp at q
        exact .inl q.symm
    · rw [if_neg (by simp [e])]
      constructor
      · rintro (rfl | ⟨-, q⟩)
        · exact absurd rfl e
        · exact q
      · intro q
        exact .inr ⟨fun q => e q.symm, q⟩
theorem goW_rise : ∀ (r : List Wr) (p : Wr), Srd (p :: r) → RiseW (goW p.1 r) ∧ ∀ d ∈ goW p.1 r, p.1 < d.1
  | [], p, _ => ⟨List.Pairwise.nil, fun d hd => by simp [goW] at hd⟩
  | y :: r, p, h => by
    obtain ⟨h1, h2⟩ := List.pairwise_cons.1 h
    obtain ⟨i1, i2⟩ := goW_rise r y h2
    have hpy := h1 y (by simp)
    unfold goW
    split
    · rename_i e
      exact ⟨i1, fun d hd => by have := i2 d hd; omega⟩
    · rename_i e
      refine ⟨List.pairwise_cons.2 ⟨i2, i1⟩, fun d hd => ?_⟩
      rcases List.mem_cons.1 hd with rfl | hd
      · omega
      · have := i2 d hd; omega
theorem cmpW_rise (l : List Wr) (h : Srd l) : RiseW (cmpW l) := by
  cases l with
  | nil => exact List.Pairwise.nil
  | cons x r => exact List.pairwise_cons.2 ⟨(goW_rise r x h).2, (goW_rise r x h).1⟩
theorem rise_ext : ∀ (A B : List Wr), RiseW A → RiseW B → (∀ d, d ∈ A ↔ d ∈ B) → A = B
  | [], [], _, _, _ => rfl
  | [], y :: r, _, _, h => absurd ((h y).2 (by simp)) (by simp)
  | x :: r, [], _, _, h => absurd ((h x).1 (by simp)) (by simp)
  | x :: r, y :: s, hA, hB, h => by
    obtain ⟨a1, a2⟩ := List.pairwise_cons.1 hA
    obtain ⟨b1, b2⟩ := List.pairwise_cons.1 hB
    have e : x = y := by
      rcases List.mem_cons.1 ((h x).1 (by simp)) with e | e
      · exact e
      · rcases List.mem_cons.1 ((h y).2 (by simp)) with e2 | e2
        · exact e2.symm
        · have := a1 y e2; have := b1 x e; omega
    subst e
    rw [rise_ext r s a2 b2 (fun d => ?_)]
    have := h d
    rw [List.mem_cons, List.mem_cons] at this
    constructor
    · intro hd
      rcases this.1 (.inr hd) with rfl | q
      · have := a1 d hd; omega
      · exact q
    · intro hd
      rcases this.2 (.inr hd) with rfl | q
      · have := b1 d hd; omega
      · exact q
theorem srtW_head (l : List Wr) (d : Wr) : d ∈ srtW l ↔ (l.reverse.filter (fun x => x.1 == d.1)).head? = some d := by
  suffices h : ∀ r : List Wr, d ∈ srtW r.reverse ↔ (r.filter (fun x => x.1 == d.1)).head? = some d by
    have := h l.reverse
    rwa [List.reverse_reverse] at this
  intro r
  induction r with
  | nil => simp [srtW]
  | cons x r ih =>
    rw [List.reverse_cons, srtW_snoc, mem_insW x _ d (srtW_rise _), ih, List.filter_cons]
    by_cases e : x.1 = d.1
    · rw [if_pos (by simp [e])]
      constructor
      · rintro (rfl | ⟨-, q⟩)
        · rfl
        · exact absurd e.symm q
      · intro q
        simp at q
        exact .inl q.symm
    · rw [if_neg (by simp [e])]
      constructor
      · rintro (rfl | ⟨q, -⟩)
        · exact absurd rfl e
        · exact q
      · intro q
        exact .inr ⟨q, fun q => e q.symm⟩
/-- Turned round, sorted stably, the first of each sector: what counts. -/
theorem cmpW_srt (l s : List Wr) (h : Srd s) (hs : Sim l.reverse s) : cmpW s = srtW l :=
  rise_ext _ _ (cmpW_rise s h) (srtW_rise l) (fun d => by rw [cmpW_mem s d h, srtW_head l d, hs d.1])
/-! Two places change what they hold -/
def wd : Wr := (0, secZ)
def gw (l : List Wr) (i : Nat) : Wr := l[i]?.getD wd
theorem gw_get (l : List Wr) (i : Nat) (h : i < l.length) : l[i]? = some (gw l i) := by unfold gw; rw [List.getElem?_eq_getElem h]; rfl
def swW (l : List Wr) (i j : Nat) : List Wr := (l.set i (gw l j)).set j (gw l i)
theorem swW_len (l : List Wr) (i j : Nat) : (swW l i j).length = l.length := by simp [swW]
theorem set_mid (A B : List Wr) (x y : Wr) (i : Nat) (h : A.length = i) : (A ++ x :: B).set i y = A ++ y :: B := by subst h; simp
theorem gw_mid (A B : List Wr) (x : Wr) (i : Nat) (h : A.length = i) : gw (A ++ x :: B) i = x := by subst h; simp [gw]
theorem swW_mid (A B C : List Wr) (x y : Wr) (i j : Nat) (hi : A.length = i) (hj : i + 1 + B.length = j) : swW (A ++ x :: (B ++ y :: C)) i j = A ++ y :: (B ++ x :: C) := by
  have h1 : gw (A ++ x :: (B ++ y :: C)) i = x := gw_mid A _ x i hi
  have e : ∀ u v : Wr, A ++ u :: (B ++ v :: C) = (A ++ u :: B) ++ v :: C := fun u v => by simp
  have h2 : gw (A ++ x :: (B ++ y :: C)) j = y := by rw [e]; exact gw_mid _ _ y j (by simp; omega)
  unfold swW
  rw [h1, h2, set_mid A _ x y i hi, e, set_mid _ _ y x j (by simp; omega), e]
theorem set_comm' (l : List Wr) (i j : Nat) (a b : Wr) (h : i ≠ j) : (l.set i a).set j b = (l.set j b).set i a := List.set_comm a b h
theorem swW_comm (l : List Wr) (i j : Nat) : swW l i j = swW l j i := by
  by_cases h : i = j
  · subst h; rfl
  · unfold swW; rw [set_comm' _ _ _ _ _ h]
/-- A split at a number. -/
theorem split_at (l : List Wr) (k : Nat) (h : k ≤ l.length) : ∃ A B, l = A ++ B ∧ A.length = k := ⟨l.take k, l.drop k, (List.take_append_drop k l).symm, by simp; omega⟩
end Go.Proofs.Ytmbkkdojjfdliaa
