
import Derived.Test.YthkjfgncbmpllaaDsI
import Derived.Test.YthkjfgncbmpllaaGenA
import Derived.Test.YthkjfgncbmpllaaDgB
namespace Go.Proofs.Ythkjfgncbmpllaa
open Go.RowKit Go.Sort

/-! Lists of digests that lie apart from one another -/
def mkL (i n : Nat) : List Dg := (List.range n).map (markD i)
theorem mkL_len (i n : Nat) : (mkL i n).length = n := by simp [mkL]
theorem mkL_get (i n j : Nat) (h : j < n) : (mkL i n)[j]? = some (markD i j) := by simp [mkL, h]
theorem mkL_succ (i n : Nat) : mkL i (n + 1) = mkL i n ++ [markD i n] := by simp [mkL, List.range_succ]
theorem mkL_two (i n : Nat) : mkL i n ++ [markD i n, markD i (n + 1)] = mkL i (n + 2) := by
  rw [show n + 2 = (n + 1) + 1 from rfl, mkL_succ, mkL_succ, List.append_assoc]
  rfl
/-- append(v, a, b): the old slice reads as before. -/
theorem run_app2D (w : World) (B y : Nat) (v : Value) (ds : List Dg) (a b : Dg) (ty : TypeId) (h : OwnDs w B v ds) (hy : IsDs w (.slice (some ⟨y, 0, none⟩) 2 2) [a, b]) (hl : (ds.length + 2) * 32 ≤ 140737488355328) (hb : B ≤ w.heap.size) :
    ∃ g c w', (Builtin.append_ #[31, 31] ty #[v, .slice (some ⟨y, 0, none⟩) 2 2]).run Try.prog w = .ok (.slice (some ⟨g, 0, none⟩) (ds.length + 2) c) w' ∧ OwnDs w' B (.slice (some ⟨g, 0, none⟩) (ds.length + 2) c) (ds ++ [a, b]) ∧ OwnDs w' B v ds ∧ w.grownBy w' v.ownBlock ∧ (v.ownBlock = some g ∨ g = w.heap.size) := by
  obtain ⟨i, hi, hzz⟩ := Option.map_eq_some_iff.1 infoDg
  simp only [Prod.mk.injEq] at hzz
  obtain ⟨hz, hs, hby⟩ := hzz
  have hlen : (flatD [a, b]).length = 2 * 32 := flatD_len [a, b]
  have hcell : ∀ j u, (flatD [a, b])[j]? = some u → w.cell? ((⟨y, 0, none⟩ : Addr).add j) = some u := fun j u hu => by rw [addr_add]; exact hy.cells j u hu
  obtain ⟨g, cap, w', hr, h2, h3, h4, h5⟩ := run_append_lies (P := Try.prog) w 31 ty B 23 i _ 32 32 Try.underlying31 hi hz hs hby (by simp [Value.cells]) (by omega) v ds.length (flatD ds) h ⟨y, 0, none⟩ 2 2 (flatD [a, b]) hlen
    hcell (flatD_one [a, b]) (by omega) (by unfold maxLen; omega) hl hb _ rfl
  have hO : OwnDs w' B (.slice (some ⟨g, 0, none⟩) (ds.length + 2) cap) (ds ++ [a, b]) := by
    unfold OwnDs
    rw [List.length_append, flatD_app]
    exact h2
  refine ⟨g, cap, w', hr, hO, ?_, h3, h4⟩
  rcases h.2 with ⟨rfl, hn⟩ | ⟨g0, c0, cur, rfl, hb0, hg0, hle, hm, hcs, ht⟩
  · have : ds = [] := List.eq_nil_of_length_eq_zero hn
    subst this
    exact OwnDs.nil w' B
  · by_cases hroom : ds.length + 2 ≤ c0
    · have hfit : ds.length * i.size + (flatD [a, b]).length ≤ cur.size := by
        rw [hs, hlen, hcs]
        have := Nat.mul_le_mul_right 32 hroom
        omega
      have hr2 := run_append_room (P := Try.prog) w 31 ty 23 i Try.underlying31 hi g0 ds.length c0 cur hg0 ⟨y, 0, none⟩ 2 2 (flatD [a, b]) (by rw [hs]; exact hlen) hcell (flatD_one [a, b]) hroom hfit
      rw [hr] at hr2
      simp only [Result.ok.injEq, Value.slice.injEq, Option.some.injEq, Addr.mk.injEq, and_true] at hr2
      obtain ⟨⟨rfl, -, rfl⟩, -⟩ := hr2
      have := hO.cut ds.length (by omega)
      rwa [List.take_left' rfl] at this
    · have hr2 := run_append_grow (P := Try.prog) w 31 ty 23 i _ Try.underlying31 hi hz ⟨g0, 0, none⟩ ds.length c0 (flatD ds) (by rw [hs]; exact flatD_len ds)
        (fun j u hu => World.ownsRow.cells h (g := g0) rfl j u hu) ⟨y, 0, none⟩ 2 2 (flatD [a, b]) (by rw [hs]; exact hlen) hcell (by omega) (by omega) (growslice_fits (by omega) (by rw [hby]; omega))
      rw [hr] at hr2
      simp only [Result.ok.injEq] at hr2
      rw [hr2.2]
      exact h.keep (below_alloc w _).drew
/-- Lists whose slices lie in a row, each in memory of its own. -/
structure Five (w : World) (base gl : Nat) (vs : List Value) (f : Nat → List Dg) : Prop where
  lt : gl < w.heap.size
  row : ∀ (i : Nat) v, vs[i]? = some v → w.cell? ⟨gl, i, none⟩ = some v
  own : ∀ (i : Nat) v, vs[i]? = some v → OwnDs w base v (f i)
  off : ∀ (i : Nat) v, vs[i]? = some v → v.ownBlock ≠ some gl
  apart : ∀ (i j : Nat) v u, i ≠ j → vs[i]? = some v → vs[j]? = some u → v.ownBlock = none ∨ v.ownBlock ≠ u.ownBlock
theorem cell_grown {w w' : World} {row : Option Nat} {g i : Nat} {v : Value} (h : w.grownBy w' row) (hc : w.cell? ⟨g, i, none⟩ = some v) (hn : row ≠ some g) : w'.cell? ⟨g, i, none⟩ = some v := by
  have hlt := World.block_lt_of_cell? w _ hc
  rw [← hc]
  unfold World.cell?
  rw [h.block g hlt (fun e => hn e.symm)]
theorem Five.step {w w' : World} {base gl : Nat} {vs : List Value} {f : Nat → List Dg} (h : Five w base gl vs f) {q : Nat} {v : Value} {ds : List Dg} (hv : vs[q]? = some v) (hg : w.grownBy w' v.ownBlock) (hO : OwnDs w' base v ds) : Five w' base gl vs (fun k => if k = q then ds else f k) := by
  refine ⟨Nat.lt_of_lt_of_le h.lt hg.size, fun i u hu => cell_grown hg (h.row i u hu) (h.off q v hv), fun i u hu => ?_, h.off, h.apart⟩
  by_cases e : i = q
  · subst e
    rw [hv] at hu
    cases hu
    simp only [if_pos]
    exact hO
  · simp only [if_neg e]
    exact World.ownsRow.kept (h.own i u hu) hg (h.apart i q u v e hu hv)
theorem Five.later {w w' : World} {base gl : Nat} {vs : List Value} {f : Nat → List Dg} (h : Five w base gl vs f) (hb : Below w.heap.size w w') : Five w' base gl vs f :=
  ⟨Nat.lt_of_lt_of_le h.lt hb.size, fun i u hu => by rw [hb.cell h.lt]; exact h.row i u hu, fun i u hu => (h.own i u hu).keep hb, h.off, h.apart⟩
theorem Five.eq {w : World} {base gl : Nat} {vs : List Value} {f f' : Nat → List Dg} (h : Five w base gl vs f) (e : ∀ k, k < vs.length → f k = f' k) : Five w base gl vs f' :=
  ⟨h.lt, h.row, fun i v hv => by have := h.own i v hv; rwa [e i (List.getElem?_eq_some_iff.1 hv).1] at this, h.off, h.apart⟩
/-- The lists ahead of q are marked, and p places of list q. -/
def stg (d : Nat → List Dg) (q p : Nat) : Nat → List Dg := fun k => if k < q then mkL k (d k).length else if k = q then mkL q p ++ (d q).drop p else d k
theorem stg_zero (d : Nat → List Dg) : stg d 0 0 = d := by
  funext k
  unfold stg
  rw [if_neg (by omega)]
  by_cases e : k = 0
  · subst e; simp [mkL]
  · rw [if_neg e]
theorem stg_at (d : Nat → List Dg) (q p : Nat) : stg d q p q = mkL q p ++ (d q).drop p := by unfold stg; rw [if_neg (by omega), if_pos rfl]
theorem stg_len (d : Nat → List Dg) (q p : Nat) (h : p ≤ (d q).length) : (stg d q p q).length = (d q).length := by rw [stg_at, List.length_append, mkL_len, List.length_drop]; omega
theorem stg_put (d : Nat → List Dg) (q p : Nat) (h : p < (d q).length) : (fun k => if k = q then (stg d q p q).set p (markD q p) else stg d q p k) = stg d q (p + 1) := by
  funext k
  by_cases e : k = q
  · subst e
    rw [if_pos rfl, stg_at, stg_at, put_mid _ _ p _ (mkL_len _ _) h, mkL_succ]
  · rw [if_neg e]
    unfold stg
    by_cases h1 : k < q
    · rw [if_pos h1, if_pos h1]
    · rw [if_neg h1, if_neg h1, if_neg e, if_neg e]
theorem stg_next (d : Nat → List Dg) (q : Nat) : stg d q (d q).length = stg d (q + 1) 0 := by
  funext k
  unfold stg
  by_cases h1 : k < q
  · rw [if_pos h1, if_pos (by omega)]
  · rw [if_neg h1]
    by_cases e : k = q
    · subst e
      rw [if_pos rfl, if_pos (by omega)]
      simp
    · rw [if_neg e, if_neg (by omega)]
      by_cases e1 : k = q + 1
      · subst e1; simp [mkL]
      · rw [if_neg e1]
theorem stg_end (d : Nat → List Dg) (N k : Nat) (h : k < N) : stg d N 0 k = mkL k (d k).length := by unfold stg; rw [if_pos h]
/-- The lists with two more each, in a row of their own. -/
structure Six (w : World) (base gl : Nat) (vs : List Value) (n : Nat → Nat) (us : List Value) (vm : Value) : Prop where
  five : Five w base gl vs (fun k => mkL k (n k))
  more : OwnG 31 w base vm us
  own : ∀ (i : Nat) u, us[i]? = some u → OwnDs w base u (mkL i (n i + 2))
  uoff : ∀ (i : Nat) u, us[i]? = some u → u.ownBlock ≠ some gl
  uv : ∀ (i j : Nat) u v, i ≠ j → us[i]? = some u → vs[j]? = some v → u.ownBlock ≠ v.ownBlock
  ml : vm.ownBlock = none ∨ vm.ownBlock ≠ some gl
  mv : ∀ (i : Nat) v, vs[i]? = some v → vm.ownBlock = none ∨ vm.ownBlock ≠ v.ownBlock
  mu : ∀ (i : Nat) u, us[i]? = some u → vm.ownBlock = none ∨ vm.ownBlock ≠ u.ownBlock
theorem Six.start {w : World} {base gl : Nat} {vs : List Value} {n : Nat → Nat} (h : Five w base gl vs (fun k => mkL k (n k))) : Six w base gl vs n [] (.slice none 0 0) :=
  ⟨h, OwnG.nil _ w base, fun i u hu => by simp at hu, fun i u hu => by simp at hu, fun i j u v _ hu => by simp at hu, .inl rfl, fun _ _ _ => .inl rfl, fun _ _ _ => .inl rfl⟩
theorem Six.later {w w' : World} {base gl : Nat} {vs us : List Value} {n : Nat → Nat} {vm : Value} (h : Six w base gl vs n us vm) (hb : Below w.heap.size w w') : Six w' base gl vs n us vm :=
  ⟨h.five.later hb, h.more.keep hb, fun i u hu => (h.own i u hu).keep hb, h.uoff, h.uv, h.ml, h.mv, h.mu⟩
/-- A slice with two more is made of list q. -/
theorem Six.grow {w w' : World} {base gl q g c : Nat} {vs us : List Value} {n : Nat → Nat} {vm v : Value} (h : Six w base gl vs n us vm) (hv : vs[q]? = some v) (hq : us.length = q) (hg : w.grownBy w' v.ownBlock) (hOv : OwnDs w' base v (mkL q (n q))) (hOu : OwnDs w' base (.slice (some ⟨g, 0, none⟩) (n q + 2) c) (mkL q (n q + 2))) (hat : v.ownBlock = some g ∨ g = w.heap.size) :
    Six w' base gl vs n us vm ∧ (∀ (j : Nat) u, j ≠ q → vs[j]? = some u → some g ≠ u.ownBlock) ∧ g ≠ gl ∧ (vm.ownBlock = none ∨ vm.ownBlock ≠ some g) := by
  have h5 := h.five.step hv hg hOv
  refine ⟨⟨h5.eq (fun k _ => by by_cases e : k = q <;> simp [e]), World.ownsRow.kept h.more hg (h.mv q v hv), fun i u hu => World.ownsRow.kept (h.own i u hu) hg (.inr (h.uv i q u v (fun e => by
    have := (List.getElem?_eq_some_iff.1 hu).1; omega) hu hv)), h.uoff, h.uv, h.ml, h.mv, h.mu⟩, fun j u hj hu he => ?_, fun e => ?_, ?_⟩
  · rcases hat with hat | rfl
    · rcases h.five.apart q j v u (fun e => hj e.symm) hv hu with e | e
      · rw [hat] at e; cases e
      · exact e (hat.trans he)
    · have := (World.ownsRow.lt (h.five.own j u hu) _ he.symm).2
      omega
  · rcases hat with hat | rfl
    · exact h.five.off q v hv (by rw [hat, e])
    · have := h.five.lt; omega
  · rcases hat with hat | rfl
    · rcases h.mv q v hv with e | e
      · exact .inl e
      · exact .inr (fun k => e (k.trans hat.symm))
    · by_cases e : vm.ownBlock = some w.heap.size
      · have := (h.more.lt _ e).2; omega
      · exact .inr e
theorem eltD : Elt 40 31 24 := ⟨Try.underlying40, by
  have h : (Try.prog.info? 31).map (fun i => (i.zero, i.size, i.bytes)) = some (some (.slice none 0 0), 1, 24) := by kernel_rfl
  obtain ⟨i, hi, hzz⟩ := Option.map_eq_some_iff.1 h
  simp only [Prod.mk.injEq] at hzz
  exact ⟨i, _, hi, hzz.1, hzz.2.1, hzz.2.2, rfl⟩⟩
/-- append(more, u) -/
theorem run_app1M (w : World) (base y c : Nat) (vm : Value) (us : List Value) (u : Value) (ty : TypeId) (h : OwnG 31 w base vm us) (hy : w.cell? ⟨y, 0, none⟩ = some u) (hu : u.oneCell' = true) (hl : us.length ≤ 1000) (hb : base ≤ w.heap.size) :
    ∃ g c' w', (Builtin.append_ #[40, 40] ty #[vm, .slice (some ⟨y, 0, none⟩) 1 c]).run Try.prog w = .ok (.slice (some ⟨g, 0, none⟩) (us.length + 1) c') w' ∧ OwnG 31 w' base (.slice (some ⟨g, 0, none⟩) (us.length + 1) c') (us ++ [u]) ∧ w.grownBy w' vm.ownBlock ∧ (vm.ownBlock = some g ∨ g = w.heap.size) := by
  obtain ⟨i, z, hi, hz, hs, hby, hzs⟩ := eltD.info
  obtain ⟨g, cap, w', hr, h2, h3, h4, h5⟩ := run_append_lies (P := Try.prog) w 40 ty base 31 i z 1 24 eltD.ht hi hz hs hby hzs (by omega) vm us.length us h ⟨y, 0, none⟩ 1 c [u] rfl
    (fun j x hx => by
      rcases j with _ | j
      · simp at hx; subst hx; rw [addr_add]; exact hy
      · simp at hx) (by simpa using hu) (by omega) (by unfold maxLen; omega) (by omega) hb _ rfl
  refine ⟨g, cap, w', hr, ?_, h3, h4⟩
  unfold OwnG
  rw [List.length_append]
  exact h2
theorem Six.push {w w' : World} {base gl q g g2 c c2 : Nat} {vs us : List Value} {n : Nat → Nat} {vm : Value} (h : Six w base gl vs n us vm) (hq : us.length = q)
    (hOu : OwnDs w base (.slice (some ⟨g, 0, none⟩) (n q + 2) c) (mkL q (n q + 2))) (huv : ∀ (j : Nat) u, j ≠ q → vs[j]? = some u → some g ≠ u.ownBlock) (hgl : g ≠ gl) (hmg : vm.ownBlock = none ∨ vm.ownBlock ≠ some g)
    (hg : w.grownBy w' vm.ownBlock) (hM : OwnG 31 w' base (.slice (some ⟨g2, 0, none⟩) (us.length + 1) c2) (us ++ [.slice (some ⟨g, 0, none⟩) (n q + 2) c])) (hat : vm.ownBlock = some g2 ∨ g2 = w.heap.size) :
    Six w' base gl vs n (us ++ [.slice (some ⟨g, 0, none⟩) (n q + 2) c]) (.slice (some ⟨g2, 0, none⟩) (us.length + 1) c2) := by
  have hsym : ∀ {x : Option Nat}, vm.ownBlock = none ∨ vm.ownBlock ≠ x → x = none ∨ x ≠ vm.ownBlock := fun {x} hx => by
    rcases hx with e | e
    · cases x with
      | none => exact .inl rfl
      | some k => exact .inr (by rw [e]; simp)
    · exact .inr (fun k => e k.symm)
  have hus : ∀ (i : Nat) u, (us ++ [.slice (some ⟨g, 0, none⟩) (n q + 2) c])[i]? = some u → (us[i]? = some u ∧ i < q) ∨ (i = q ∧ u = .slice (some ⟨g, 0, none⟩) (n q + 2) c) := fun i u hu => by
    rcases Nat.lt_or_ge i us.length with hlt | hge
    · rw [List.getElem?_append_left hlt] at hu
      exact .inl ⟨hu, by omega⟩
    · rw [List.getElem?_append_right hge] at hu
      have hi : i - us.length < 1 := by have := (List.getElem?_eq_some_iff.1 hu).1; simpa using this
      obtain rfl : i = us.length := by omega
      simp at hu
      exact .inr ⟨hq, hu.symm⟩
  have hfree : ∀ (x : Option Nat), (vm.ownBlock = none ∨ vm.ownBlock ≠ x) → (∀ k, x = some k → k < w.heap.size) → some g2 ≠ x := fun x h1 h2 e => by
    rcases hat with hat | rfl
    · rcases h1 with h1 | h1
      · rw [hat] at h1; cases h1
      · exact h1 (hat.trans e)
    · have := h2 _ e.symm; omega
  have f5 : Five w' base gl vs (fun k => mkL k (n k)) := ⟨Nat.lt_of_lt_of_le h.five.lt hg.size, fun i u hu => by
      refine cell_grown hg (h.five.row i u hu) ?_
      rcases h.ml with e | e
      · rw [e]; simp
      · exact e, fun i u hu => World.ownsRow.kept (h.five.own i u hu) hg (hsym (h.mv i u hu)), h.five.off, h.five.apart⟩
  refine ⟨f5, hM, fun i u hu => ?_, fun i u hu => ?_, fun i j u v hij hu hv => ?_, .inr ?_, fun i v hv => .inr ?_, fun i u hu => .inr ?_⟩
  · rcases hus i u hu with ⟨hu', -⟩ | ⟨rfl, rfl⟩
    · exact World.ownsRow.kept (h.own i u hu') hg (hsym (h.mu i u hu'))
    · exact World.ownsRow.kept hOu hg (hsym hmg)
  · rcases hus i u hu with ⟨hu', -⟩ | ⟨rfl, rfl⟩
    · exact h.uoff i u hu'
    · simpa [Value.ownBlock] using hgl
  · rcases hus i u hu with ⟨hu', -⟩ | ⟨rfl, rfl⟩
    · exact h.uv i j u v hij hu' hv
    · exact huv j v (fun e => hij e.symm) hv
  · exact hfree _ h.ml (fun k hk => by cases hk; exact h.five.lt)
  · exact hfree _ (h.mv i v hv) (fun k hk => (World.ownsRow.lt (h.five.own i v hv) k hk).2)
  · rcases hus i u hu with ⟨hu', -⟩ | ⟨rfl, rfl⟩
    · exact hfree _ (h.mu i u hu') (fun k hk => (World.ownsRow.lt (h.own i u hu') k hk).2)
    · exact hfree _ hmg (fun k hk => (World.ownsRow.lt hOu k hk).2)
end Go.Proofs.Ythkjfgncbmpllaa
