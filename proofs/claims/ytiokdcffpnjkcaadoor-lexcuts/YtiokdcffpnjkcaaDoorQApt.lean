import Derived.Test.YtiokdcffpnjkcaaDoorQKel
import Derived.Test.YtiokdcffpnjkcaaDoorQGenA
namespace Go.Proofs.YtiokdcffpnjkcaaDoor
open Go.RowKit

/-! Lists that lie apart from one another, whatever their elements -/
def mkM {α : Type} (M : Nat → Nat → α) (i n : Nat) : List α := (List.range n).map (M i)
theorem mkM_len {α : Type} {M : Nat → Nat → α} (i n : Nat) : (mkM M i n).length = n := by simp [mkM]
theorem mkM_get {α : Type} {M : Nat → Nat → α} (i n j : Nat) (h : j < n) : (mkM M i n)[j]? = some (M i j) := by simp [mkM, h]
theorem mkM_succ {α : Type} {M : Nat → Nat → α} (i n : Nat) : mkM M i (n + 1) = mkM M i n ++ [M i n] := by simp [mkM, List.range_succ]
theorem mkM_two {α : Type} {M : Nat → Nat → α} (i n : Nat) : mkM M i n ++ [M i n, M i (n + 1)] = mkM M i (n + 2) := by
  rw [show n + 2 = (n + 1) + 1 from rfl, mkM_succ, mkM_succ, List.append_assoc]
  rfl
theorem put_midK {α : Type} (rs ts : List α) (K : Nat) (x : α) (hK : rs.length = K) (hl : K < ts.length) : (rs ++ ts.drop K).set K x = (rs ++ [x]) ++ ts.drop (K + 1) := by
  subst hK
  rw [List.set_append_right _ _ (Nat.le_refl _), Nat.sub_self, List.drop_eq_getElem_cons hl, List.set_cons_zero, List.append_assoc]
  rfl
/-- Lists whose slices lie in a row, each in memory of its own. -/
structure FiveK {α : Type} (E : EK α) (w : World) (base gl : Nat) (vs : List Value) (f : Nat → List α) : Prop where
  lt : gl < w.heap.size
  row : ∀ (i : Nat) v, vs[i]? = some v → w.cell? ⟨gl, i, none⟩ = some v
  own : ∀ (i : Nat) v, vs[i]? = some v → OwnK E w base v (f i)
  off : ∀ (i : Nat) v, vs[i]? = some v → v.ownBlock ≠ some gl
  apart : ∀ (i j : Nat) v u, i ≠ j → vs[i]? = some v → vs[j]? = some u → v.ownBlock = none ∨ v.ownBlock ≠ u.ownBlock
theorem cell_grownK {w w' : World} {row : Option Nat} {g i : Nat} {v : Value} (h : w.grownBy w' row) (hc : w.cell? ⟨g, i, none⟩ = some v) (hn : row ≠ some g) : w'.cell? ⟨g, i, none⟩ = some v := by
  have hlt := World.block_lt_of_cell? w _ hc
  rw [← hc]
  unfold World.cell?
  rw [h.block g hlt (fun e => hn e.symm)]
theorem FiveK.step {α : Type} {E : EK α} {w w' : World} {base gl : Nat} {vs : List Value} {f : Nat → List α} (h : FiveK E w base gl vs f) {q : Nat} {v : Value} {ds : List α} (hv : vs[q]? = some v) (hg : w.grownBy w' v.ownBlock) (hO : OwnK E w' base v ds) : FiveK E w' base gl vs (fun k => if k = q then ds else f k) := by
  refine ⟨Nat.lt_of_lt_of_le h.lt hg.size, fun i u hu => cell_grownK hg (h.row i u hu) (h.off q v hv), fun i u hu => ?_, h.off, h.apart⟩
  by_cases e : i = q
  · subst e
    rw [hv] at hu
    cases hu
    simp only [if_pos]
    exact hO
  · simp only [if_neg e]
    exact World.ownsRow.kept (h.own i u hu) hg (h.apart i q u v e hu hv)
theorem FiveK.later {α : Type} {E : EK α} {w w' : World} {base gl : Nat} {vs : List Value} {f : Nat → List α} (h : FiveK E w base gl vs f) (hb : Below w.heap.size w w') : FiveK E w' base gl vs f :=
  ⟨Nat.lt_of_lt_of_le h.lt hb.size, fun i u hu => by rw [hb.cell h.lt]; exact h.row i u hu, fun i u hu => (h.own i u hu).keep hb, h.off, h.apart⟩
theorem FiveK.eq {α : Type} {E : EK α} {w : World} {base gl : Nat} {vs : List Value} {f f' : Nat → List α} (h : FiveK E w base gl vs f) (e : ∀ k, k < vs.length → f k = f' k) : FiveK E w base gl vs f' :=
  ⟨h.lt, h.row, fun i v hv => by have := h.own i v hv; rwa [e i (List.getElem?_eq_some_iff.1 hv).1] at this, h.off, h.apart⟩
/-- The lists ahead of q are marked, and p places of list q. -/
def stgK {α : Type} (M : Nat → Nat → α) (d : Nat → List α) (q p : Nat) : Nat → List α := fun k => if k < q then mkM M k (d k).length else if k = q then mkM M q p ++ (d q).drop p else d k
theorem stgK_zero {α : Type} (M : Nat → Nat → α) (d : Nat → List α) : stgK M d 0 0 = d := by
  funext k
  unfold stgK
  rw [if_neg (by omega)]
  by_cases e : k = 0
  · subst e; simp [mkM]
  · rw [if_neg e]
theorem stgK_at {α : Type} (M : Nat → Nat → α) (d : Nat → List α) (q p : Nat) : stgK M d q p q = mkM M q p ++ (d q).drop p := by unfold stgK; rw [if_neg (by omega), if_pos rfl]
theorem stgK_len {α : Type} (M : Nat → Nat → α) (d : Nat → List α) (q p : Nat) (h : p ≤ (d q).length) : (stgK M d q p q).length = (d q).length := by rw [stgK_at, List.length_append, mkM_len, List.length_drop]; omega
theorem stgK_put {α : Type} (M : Nat → Nat → α) (d : Nat → List α) (q p : Nat) (h : p < (d q).length) : (fun k => if k = q then (stgK M d q p q).set p (M q p) else stgK M d q p k) = stgK M d q (p + 1) := by
  funext k
  by_cases e : k = q
  · subst e
    rw [if_pos rfl, stgK_at, stgK_at, put_midK _ _ p _ (mkM_len _ _) h, mkM_succ]
  · rw [if_neg e]
    unfold stgK
    by_cases h1 : k < q
    · rw [if_pos h1, if_pos h1]
    · rw [if_neg h1, if_neg h1, if_neg e, if_neg e]
theorem stgK_next {α : Type} (M : Nat → Nat → α) (d : Nat → List α) (q : Nat) : stgK M d q (d q).length = stgK M d (q + 1) 0 := by
  funext k
  unfold stgK
  by_cases h1 : k < q
  · rw [if_pos h1, if_pos (by omega)]
  · rw [if_neg h1]
    by_cases e : k = q
    · subst e
      rw [if_pos rfl, if_pos (by omega)]
      simp
    · rw [if_neg e, if_neg (by omega)]
      by_cases e1 : k = q + 1
      · subst e1; simp [mkM]
      · rw [if_neg e1]
theorem stgK_end {α : Type} (M : Nat → Nat → α) (d : Nat → List α) (N k : Nat) (h : k < N) : stgK M d N 0 k = mkM M k (d k).length := by unfold stgK; rw [if_pos h]
/-- The lists with two more each, in a row of their own. -/
structure SixK {α : Type} (E : EK α) (M : Nat → Nat → α) (w : World) (base gl : Nat) (vs : List Value) (n : Nat → Nat) (us : List Value) (vm : Value) : Prop where
  five : FiveK E w base gl vs (fun k => mkM M k (n k))
  more : OwnG E.S w base vm us
  own : ∀ (i : Nat) u, us[i]? = some u → OwnK E w base u (mkM M i (n i + 2))
  uoff : ∀ (i : Nat) u, us[i]? = some u → u.ownBlock ≠ some gl
  uv : ∀ (i j : Nat) u v, i ≠ j → us[i]? = some u → vs[j]? = some v → u.ownBlock ≠ v.ownBlock
  ml : vm.ownBlock = none ∨ vm.ownBlock ≠ some gl
  mv : ∀ (i : Nat) v, vs[i]? = some v → vm.ownBlock = none ∨ vm.ownBlock ≠ v.ownBlock
  mu : ∀ (i : Nat) u, us[i]? = some u → vm.ownBlock = none ∨ vm.ownBlock ≠ u.ownBlock
theorem SixK.start {α : Type} {E : EK α} {M : Nat → Nat → α} {w : World} {base gl : Nat} {vs : List Value} {n : Nat → Nat} (h : FiveK E w base gl vs (fun k => mkM M k (n k))) : SixK E M w base gl vs n [] (.slice none 0 0) :=
  ⟨h, OwnG.nil _ w base, fun i u hu => by simp at hu, fun i u hu => by simp at hu, fun i j u v _ hu => by simp at hu, .inl rfl, fun _ _ _ => .inl rfl, fun _ _ _ => .inl rfl⟩
theorem SixK.later {α : Type} {E : EK α} {M : Nat → Nat → α} {w w' : World} {base gl : Nat} {vs us : List Value} {n : Nat → Nat} {vm : Value} (h : SixK E M w base gl vs n us vm) (hb : Below w.heap.size w w') : SixK E M w' base gl vs n us vm :=
  ⟨h.five.later hb, h.more.keep hb, fun i u hu => (h.own i u hu).keep hb, h.uoff, h.uv, h.ml, h.mv, h.mu⟩
/-- A slice with two more is made of list q. -/
theorem SixK.grow {α : Type} {E : EK α} {M : Nat → Nat → α} {w w' : World} {base gl q g c : Nat} {vs us : List Value} {n : Nat → Nat} {vm v : Value} (h : SixK E M w base gl vs n us vm) (hv : vs[q]? = some v) (hq : us.length = q) (hg : w.grownBy w' v.ownBlock) (hOv : OwnK E w' base v (mkM M q (n q))) (hOu : OwnK E w' base (.slice (some ⟨g, 0, none⟩) (n q + 2) c) (mkM M q (n q + 2))) (hat : v.ownBlock = some g ∨ g = w.heap.size) :
    SixK E M w' base gl vs n us vm ∧ (∀ (j : Nat) u, j ≠ q → vs[j]? = some u → some g ≠ u.ownBlock) ∧ g ≠ gl ∧ (vm.ownBlock = none ∨ vm.ownBlock ≠ some g) := by
  have h5 := h.five.step hv hg hOv
  refine ⟨⟨h5.eq (fun k _ => by by_cases e : k = q <;> simp [e]), World.ownsRow.kept h.more hg (h.mv q v hv), fun i u hu => World.ownsRow.kept (h.own i u hu) hg (.inr (h.uv i q u v (fun e => by
    have := (List.getElem?_eq_some_iff.1 hu).1; omega) hu hv)), h.uoff, h.uv, h.ml, h.mv, h.mu⟩, fun j u hj hu he => ?_, fun e => ?_, ?_⟩
  · rcases hat with hat | rfl
    · rcases h.five.apart q j v u (fun e => hj e.symm) hv hu with e | e
      · rw [hat] at e; cases e
      · exact e (hat.trans he)
    · have := (World.ownsRow.lt (h.five.own j u hu) _ he.symm).2
      omega
  · rcases hat with hat | rfl
    · exact h.five.off q v hv (by rw [hat, e])
    · have := h.five.lt; omega
  · rcases hat with hat | rfl
    · rcases h.mv q v hv with e | e
      · exact .inl e
      · exact .inr (fun k => e (k.trans hat.symm))
    · by_cases e : vm.ownBlock = some w.heap.size
      · have := (h.more.lt _ e).2; omega
      · exact .inr e
/-- append(more, u) -/
theorem run_app1MK {t e : TypeId} (hE : Elt t e 24) (w : World) (base y c : Nat) (vm : Value) (us : List Value) (u : Value) (ty : TypeId) (h : OwnG e w base vm us) (hy : w.cell? ⟨y, 0, none⟩ = some u) (hu : u.oneCell' = true) (hl : us.length ≤ 1000) (hb : base ≤ w.heap.size) :
    ∃ g c' w', (Builtin.append_ #[t, t] ty #[vm, .slice (some ⟨y, 0, none⟩) 1 c]).run Tryd.prog w = .ok (.slice (some ⟨g, 0, none⟩) (us.length + 1) c') w' ∧ OwnG e w' base (.slice (some ⟨g, 0, none⟩) (us.length + 1) c') (us ++ [u]) ∧ w.grownBy w' vm.ownBlock ∧ (vm.ownBlock = some g ∨ g = w.heap.size) := by
  obtain ⟨i, z, hi, hz, hs, hby, hzs⟩ := hE.info
  obtain ⟨g, cap, w', hr, h2, h3, h4, h5⟩ := run_append_lies (P := Tryd.prog) w t ty base e i z 1 24 hE.ht hi hz hs hby hzs (by omega) vm us.length us h ⟨y, 0, none⟩ 1 c [u] rfl
    (fun j x hx => by
      rcases j with _ | j
      · simp at hx; subst hx; rw [addr_add]; exact hy
      · simp at hx) (by simpa using hu) (by omega) (by unfold maxLen; omega) (by omega) hb _ rfl
  refine ⟨g, cap, w', hr, ?_, h3, h4⟩
  unfold OwnG
  rw [List.length_append]
  exact h2
theorem SixK.push {α : Type} {E : EK α} {M : Nat → Nat → α} {w w' : World} {base gl q g g2 c c2 : Nat} {vs us : List Value} {n : Nat → Nat} {vm : Value} (h : SixK E M w base gl vs n us vm) (hq : us.length = q)
    (hOu : OwnK E w base (.slice (some ⟨g, 0, none⟩) (n q + 2) c) (mkM M q (n q + 2))) (huv : ∀ (j : Nat) u, j ≠ q → vs[j]? = some u → some g ≠ u.ownBlock) (hgl : g ≠ gl) (hmg : vm.ownBlock = none ∨ vm.ownBlock ≠ some g)
    (hg : w.grownBy w' vm.ownBlock) (hM : OwnG E.S w' base (.slice (some ⟨g2, 0, none⟩) (us.length + 1) c2) (us ++ [.slice (some ⟨g, 0, none⟩) (n q + 2) c])) (hat : vm.ownBlock = some g2 ∨ g2 = w.heap.size) :
    SixK E M w' base gl vs n (us ++ [.slice (some ⟨g, 0, none⟩) (n q + 2) c]) (.slice (some ⟨g2, 0, none⟩) (us.length + 1) c2) := by
  have hsym : ∀ {x : Option Nat}, vm.ownBlock = none ∨ vm.ownBlock ≠ x → x = none ∨ x ≠ vm.ownBlock := fun {x} hx => by
    rcases hx with e | e
    · cases x with
      | none => exact .inl rfl
      | some k => exact .inr (by rw [e]; simp)
    · exact .inr (fun k => e k.symm)
  have hus : ∀ (i : Nat) u, (us ++ [.slice (some ⟨g, 0, none⟩) (n q + 2) c])[i]? = some u → (us[i]? = some u ∧ i < q) ∨ (i = q ∧ u = .slice (some ⟨g, 0, none⟩) (n q + 2) c) := fun i u hu => by
    rcases Nat.lt_or_ge i us.length with hlt | hge
    · rw [List.getElem?_append_left hlt] at hu
      exact .inl ⟨hu, by omega⟩
    · rw [List.getElem?_append_right hge] at hu
      have hi : i - us.length < 1 := by have := (List.getElem?_eq_some_iff.1 hu).1; simpa using this
      obtain rfl : i = us.length := by omega
      simp at hu
      exact .inr ⟨hq, hu.symm⟩
  have hfree : ∀ (x : Option Nat), (vm.ownBlock = none ∨ vm.ownBlock ≠ x) → (∀ k, x = some k → k < w.heap.size) → some g2 ≠ x := fun x h1 h2 e => by
    rcases hat with hat | rfl
    · rcases h1 with h1 | h1
      · rw [hat] at h1; cases h1
      · exact h1 (hat.trans e)
    · have := h2 _ e.symm; omega
  have f5 : FiveK E w' base gl vs (fun k => mkM M k (n k)) := ⟨Nat.lt_of_lt_of_le h.five.lt hg.size, fun i u hu => by
      refine cell_grownK hg (h.five.row i u hu) ?_
      rcases h.ml with e | e
      · rw [e]; simp
      · exact e, fun i u hu => World.ownsRow.kept (h.five.own i u hu) hg (hsym (h.mv i u hu)), h.five.off, h.five.apart⟩
  refine ⟨f5, hM, fun i u hu => ?_, fun i u hu => ?_, fun i j u v hij hu hv => ?_, .inr ?_, fun i v hv => .inr ?_, fun i u hu => .inr ?_⟩
  · rcases hus i u hu with ⟨hu', -⟩ | ⟨rfl, rfl⟩
    · exact World.ownsRow.kept (h.own i u hu') hg (hsym (h.mu i u hu'))
    · exact World.ownsRow.kept hOu hg (hsym hmg)
  · rcases hus i u hu with ⟨hu', -⟩ | ⟨rfl, rfl⟩
    · exact h.uoff i u hu'
    · simpa [Value.ownBlock] using hgl
  · rcases hus i u hu with ⟨hu', -⟩ | ⟨rfl, rfl⟩
    · exact h.uv i j u v hij hu' hv
    · exact huv j v (fun e => hij e.symm) hv
  · exact hfree _ h.ml (fun k hk => by cases hk; exact h.five.lt)
  · exact hfree _ (h.mv i v hv) (fun k hk => (World.ownsRow.lt (h.five.own i v hv) k hk).2)
  · rcases hus i u hu with ⟨hu', -⟩ | ⟨rfl, rfl⟩
    · exact hfree _ (h.mu i u hu') (fun k hk => (World.ownsRow.lt (h.own i u hu') k hk).2)
    · exact hfree _ hmg (fun k hk => (World.ownsRow.lt hOu k hk).2)
end Go.Proofs.YtiokdcffpnjkcaaDoor
