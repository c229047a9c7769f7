import Derived.Test.YtadnfiikfhdphaaQGdv
namespace Go.Proofs.Ytadnfiikfhdphaa
open Go.RowKit

/-! Lists more for the book -/
theorem appLies {t e : TypeId} {bytes : Nat} (EL : Elt t e bytes) (W : World) (B : Nat) (xv : Option Addr) (nv cv : Nat) (ds us : List Value) (y m : Nat) (ty : TypeId) (h : OwnG e W B (.slice xv nv cv) ds) (hn : ds.length = nv) (hm : us.length = m) (hus : ∀ (j : Nat) (u : Value), us[j]? = some u → W.cell? ⟨y, j, none⟩ = some u) (h1 : ∀ u ∈ us, u.oneCell' = true) (h0 : 0 < m) (hB : B ≤ W.heap.size) (hl : (nv + m) * bytes ≤ 140737488355328) (h63 : nv + m ≤ maxLen) :
    ∃ g c' w', (Builtin.append_ #[t, t] ty #[.slice xv nv cv, .slice (some ⟨y, 0, none⟩) m m]).run Try.prog W = .ok (.slice (some ⟨g, 0, none⟩) (nv + m) c') w' ∧ OwnG e w' B (.slice (some ⟨g, 0, none⟩) (nv + m) c') (ds ++ us) ∧ Keep (Value.slice xv nv cv).ownBlock.toList W w' ∧ ((Value.slice xv nv cv).ownBlock = some g ∨ W.heap.size ≤ g) := by
  subst hn hm
  obtain ⟨i, z, hi, hz, hsz, hby, hzs⟩ := EL.info
  obtain ⟨g, c', w', hr, hO, hg, hway, hlt⟩ := run_append_lies (P := Try.prog) W t ty B e i z 1 bytes EL.ht hi hz hsz hby hzs (by omega) (.slice xv ds.length cv) ds.length ds h ⟨y, 0, none⟩ us.length us.length us (by omega) (fun j u hu => by rw [addr_add, Nat.zero_add]; exact hus j u hu) h1 h0 h63 hl hB _ rfl
  refine ⟨g, c', w', hr, by unfold OwnG; rw [List.length_append]; exact hO, Keep.of_grown hg (fun q hq => by rw [hq]; simp), ?_⟩
  rcases hway with h1 | h1
  · exact .inl h1
  · exact .inr (by omega)
theorem info_slS : (Try.prog.info? 24).map (fun i => (i.zero, i.size, i.bytes)) = some (some (.slice none 0 0), 1, 24) := by kernel_rfl
theorem eltS : Elt 40 24 24 := ⟨Try.underlying40, by
  obtain ⟨i, hi, hz⟩ := Option.map_eq_some_iff.1 info_slS
  simp only [Prod.mk.injEq] at hz
  exact ⟨i, _, hi, hz.1, hz.2.1, hz.2.2, rfl⟩⟩
theorem info_slW : (Try.prog.info? 56).map (fun i => (i.zero, i.size, i.bytes)) = some (some (.slice none 0 0), 1, 24) := by kernel_rfl
theorem eltW : Elt 41 56 24 := ⟨Try.underlying41, by
  obtain ⟨i, hi, hz⟩ := Option.map_eq_some_iff.1 info_slW
  simp only [Prod.mk.injEq] at hz
  exact ⟨i, _, hi, hz.1, hz.2.1, hz.2.2, rfl⟩⟩
theorem get_lt {α : Type} {l : List α} {k : Nat} {x : α} (h : l[k]? = some x) : k < l.length := (List.getElem?_eq_some_iff.1 h).1
theorem get_two {α : Type} {l : List α} {k : Nat} {x p q : α} (h : (l ++ [p, q])[k]? = some x) : (k < l.length ∧ l[k]? = some x) ∨ (k = l.length ∧ x = p) ∨ (k = l.length + 1 ∧ x = q) := by
  rw [List.getElem?_append] at h
  split at h
  · rename_i h9; exact .inl ⟨h9, h⟩
  · rename_i h9
    rcases hk : k - l.length with _ | _ | m
    · rw [hk] at h; simp at h; exact .inr (.inl ⟨by omega, h.symm⟩)
    · rw [hk] at h; simp at h; exact .inr (.inr ⟨by omega, h.symm⟩)
    · rw [hk] at h; simp at h
variable {W W' : World} {B : Nat} {T : Nat → Option Th} {ps : List Pr5} {b : Bk} {bc : Array Value}
/-- The book's row is written. -/
theorem G5.row (h : G5 W B T ps b bc) {bc' : Array Value} (hK : Keep [b.g] W W') (hR : RowC W' b.g bc') : ∃ T', G5 W' B T' ps b bc' ∧ (∀ A, RwN 16 T A → KA B A W W') ∧ Stc T T' := by
  obtain ⟨g9, hB⟩ := h.ga.putRow h.book hK hR
  refine ⟨_, ⟨g9, fun j q hq => ?_, fun j q hq => ?_, ?_, ?_, ?_, ?_, ?_, fun j x hx => ?_, fun j x hx => ?_, fun j x hx => ?_, fun j x hx => ?_, h.nS, h.nW, h.nP, h.nV⟩, hB, Stc.upd (by omega)⟩
  · rw [updT_ne _ _ _ _ (by omega)]; exact h.dev j q hq
  · rw [updT_ne _ _ _ _ (by omega)]; exact h.ref j q hq
  · exact updT_same _ _ _
  · rw [updT_ne _ _ _ _ (by omega)]; exact h.S
  · rw [updT_ne _ _ _ _ (by omega)]; exact h.WS
  · rw [updT_ne _ _ _ _ (by omega)]; exact h.P
  · rw [updT_ne _ _ _ _ (by omega)]; exact h.WP
  · rw [updT_ne _ _ _ _ (by omega)]; exact h.lS j x hx
  · rw [updT_ne _ _ _ _ (by omega)]; exact h.lP j x hx
  · rw [updT_ne _ _ _ _ (by omega)]; exact h.lW j x hx
  · rw [updT_ne _ _ _ _ (by omega)]; exact h.lV j x hx
/-- A list of S more, not yet in the book. -/
theorem G5.newS (h : G5 W B T ps b bc) {n : Nat} (hn : b.sS.length ≤ n) {v : Value} {L : List Sc} (hb : Below W.heap.size W W') (hO : OwnK secE W' W.heap.size v L) : G5 W' B (updT T (8 * n + 3) (thK secE B v L)) ps b bc := by
  refine ⟨h.ga.newK _ hb hO, fun j q hq => ?_, fun j q hq => ?_, ?_, ?_, ?_, ?_, ?_, fun j x hx => ?_, fun j x hx => ?_, fun j x hx => ?_, fun j x hx => ?_, h.nS, h.nW, h.nP, h.nV⟩
  · rw [updT_ne _ _ _ _ (by omega)]; exact h.dev j q hq
  · rw [updT_ne _ _ _ _ (by omega)]; exact h.ref j q hq
  · rw [updT_ne _ _ _ _ (by omega)]; exact h.book
  · rw [updT_ne _ _ _ _ (by omega)]; exact h.S
  · rw [updT_ne _ _ _ _ (by omega)]; exact h.WS
  · rw [updT_ne _ _ _ _ (by omega)]; exact h.P
  · rw [updT_ne _ _ _ _ (by omega)]; exact h.WP
  · have := get_lt hx
    rw [updT_ne _ _ _ _ (by omega)]; exact h.lS j x hx
  · rw [updT_ne _ _ _ _ (by omega)]; exact h.lP j x hx
  · rw [updT_ne _ _ _ _ (by omega)]; exact h.lW j x hx
  · rw [updT_ne _ _ _ _ (by omega)]; exact h.lV j x hx
/-- Two lists of S come into the book. -/
theorem G5.appS (h : G5 W B T ps b bc) {n : Nat} (hn : b.sS.length = n) {s1 s2 : Slc} {L1 L2 : List Sc} (h1 : T (8 * n + 3) = some (thK secE B s1.v L1)) (h2 : T (8 * (n + 1) + 3) = some (thK secE B s2.v L2)) (l1 : L1.length = s1.n) (l2 : L2.length = s2.n) {g c : Nat}
    (hK : Keep b.S.v.ownBlock.toList W W') (hO : OwnG 24 W' B (.slice (some ⟨g, 0, none⟩) (n + 2) c) (b.sS.map sVal ++ [s1.v, s2.v])) (hg : b.S.v.ownBlock = some g ∨ W.heap.size ≤ g) :
    ∃ T', G5 W' B T' ps { b with S := ⟨some ⟨g, 0, none⟩, n + 2, c⟩, sS := b.sS ++ [(s1, L1), (s2, L2)] } bc ∧ (∀ A, Rws T A → KA B A W W' ∧ Rws T' A) ∧ Stc T T' := by
  obtain ⟨g9, hB⟩ := h.ga.putG (v' := .slice (some ⟨g, 0, none⟩) (n + 2) c) (xs' := (b.sS ++ [(s1, L1), (s2, L2)]).map sVal) h.S hK (by rw [List.map_append]; exact hO) (fun q hq => by
    have e : g = q := by simpa [Value.ownBlock] using hq
    subst e; exact hg)
  refine ⟨_, ⟨g9, fun j q hq => ?_, fun j q hq => ?_, ?_, ?_, ?_, ?_, ?_, fun j x hx => ?_, fun j x hx => ?_, fun j x hx => ?_, fun j x hx => ?_, ?_, h.nW, h.nP, h.nV⟩, fun A hA => ⟨hB A (hA.n (by omega)), hA.upd (by omega)⟩, Stc.upd (by omega)⟩
  · rw [updT_ne _ _ _ _ (by omega)]; exact h.dev j q hq
  · rw [updT_ne _ _ _ _ (by omega)]; exact h.ref j q hq
  · rw [updT_ne _ _ _ _ (by omega)]; exact h.book
  · exact updT_same _ _ _
  · rw [updT_ne _ _ _ _ (by omega)]; exact h.WS
  · rw [updT_ne _ _ _ _ (by omega)]; exact h.P
  · rw [updT_ne _ _ _ _ (by omega)]; exact h.WP
  · rw [updT_ne _ _ _ _ (by omega)]
    rcases get_two hx with ⟨_, hx⟩ | ⟨e, rfl⟩ | ⟨e, rfl⟩
    · exact h.lS j x hx
    · rw [e, hn]; exact h1
    · rw [e, hn]; exact h2
  · rw [updT_ne _ _ _ _ (by omega)]; exact h.lP j x hx
  · rw [updT_ne _ _ _ _ (by omega)]; exact h.lW j x hx
  · rw [updT_ne _ _ _ _ (by omega)]; exact h.lV j x hx
  · refine ⟨by simp [hn], fun x hx => ?_⟩
    rcases List.mem_append.1 hx with hx | hx
    · exact h.nS.2 x hx
    · rcases (by simpa using hx : x = (s1, L1) ∨ x = (s2, L2)) with rfl | rfl
      · exact l1
      · exact l2
/-- A list of W more, not yet in the book. -/
theorem G5.newW (h : G5 W B T ps b bc) {n : Nat} (hn : b.sW.length ≤ n) {v : Value} {L : List Sc} (hb : Below W.heap.size W W') (hO : OwnK secE W' W.heap.size v L) : G5 W' B (updT T (8 * n + 5) (thKr secE B v L)) ps b bc := by
  refine ⟨h.ga.newKr _ hb hO, fun j q hq => ?_, fun j q hq => ?_, ?_, ?_, ?_, ?_, ?_, fun j x hx => ?_, fun j x hx => ?_, fun j x hx => ?_, fun j x hx => ?_, h.nS, h.nW, h.nP, h.nV⟩
  · rw [updT_ne _ _ _ _ (by omega)]; exact h.dev j q hq
  · rw [updT_ne _ _ _ _ (by omega)]; exact h.ref j q hq
  · rw [updT_ne _ _ _ _ (by omega)]; exact h.book
  · rw [updT_ne _ _ _ _ (by omega)]; exact h.S
  · rw [updT_ne _ _ _ _ (by omega)]; exact h.WS
  · rw [updT_ne _ _ _ _ (by omega)]; exact h.P
  · rw [updT_ne _ _ _ _ (by omega)]; exact h.WP
  · rw [updT_ne _ _ _ _ (by omega)]; exact h.lS j x hx
  · rw [updT_ne _ _ _ _ (by omega)]; exact h.lP j x hx
  · have := get_lt hx
    rw [updT_ne _ _ _ _ (by omega)]; exact h.lW j x hx
  · rw [updT_ne _ _ _ _ (by omega)]; exact h.lV j x hx
theorem G5.againW (h : G5 W B T ps b bc) {n j9 : Nat} (hn : b.sW.length ≤ n) {v : Value} {L : List Sc} (hj : T j9 = some (thKr secE B v L)) : G5 W B (updT T (8 * n + 5) (thKr secE B v L)) ps b bc := by
  refine ⟨h.ga.againKr _ hj, fun j q hq => ?_, fun j q hq => ?_, ?_, ?_, ?_, ?_, ?_, fun j x hx => ?_, fun j x hx => ?_, fun j x hx => ?_, fun j x hx => ?_, h.nS, h.nW, h.nP, h.nV⟩
  · rw [updT_ne _ _ _ _ (by omega)]; exact h.dev j q hq
  · rw [updT_ne _ _ _ _ (by omega)]; exact h.ref j q hq
  · rw [updT_ne _ _ _ _ (by omega)]; exact h.book
  · rw [updT_ne _ _ _ _ (by omega)]; exact h.S
  · rw [updT_ne _ _ _ _ (by omega)]; exact h.WS
  · rw [updT_ne _ _ _ _ (by omega)]; exact h.P
  · rw [updT_ne _ _ _ _ (by omega)]; exact h.WP
  · rw [updT_ne _ _ _ _ (by omega)]; exact h.lS j x hx
  · rw [updT_ne _ _ _ _ (by omega)]; exact h.lP j x hx
  · have := get_lt hx
    rw [updT_ne _ _ _ _ (by omega)]; exact h.lW j x hx
  · rw [updT_ne _ _ _ _ (by omega)]; exact h.lV j x hx
/-- Two lists of W come into the book. -/
theorem G5.appW (h : G5 W B T ps b bc) {n : Nat} (hn : b.sW.length = n) {s1 s2 : Slc} {L1 L2 : List Sc} (h1 : T (8 * n + 5) = some (thKr secE B s1.v L1)) (h2 : T (8 * (n + 1) + 5) = some (thKr secE B s2.v L2)) (l1 : L1.length = s1.n) (l2 : L2.length = s2.n) {g c : Nat}
    (hK : Keep b.WS.v.ownBlock.toList W W') (hO : OwnG 24 W' B (.slice (some ⟨g, 0, none⟩) (n + 2) c) (b.sW.map sVal ++ [s1.v, s2.v])) (hg : b.WS.v.ownBlock = some g ∨ W.heap.size ≤ g) :
    ∃ T', G5 W' B T' ps { b with WS := ⟨some ⟨g, 0, none⟩, n + 2, c⟩, sW := b.sW ++ [(s1, L1), (s2, L2)] } bc ∧ (∀ A, Rws T A → KA B A W W' ∧ Rws T' A) ∧ Stc T T' := by
  obtain ⟨g9, hB⟩ := h.ga.putG (v' := .slice (some ⟨g, 0, none⟩) (n + 2) c) (xs' := (b.sW ++ [(s1, L1), (s2, L2)]).map sVal) h.WS hK (by rw [List.map_append]; exact hO) (fun q hq => by
    have e : g = q := by simpa [Value.ownBlock] using hq
    subst e; exact hg)
  refine ⟨_, ⟨g9, fun j q hq => ?_, fun j q hq => ?_, ?_, ?_, ?_, ?_, ?_, fun j x hx => ?_, fun j x hx => ?_, fun j x hx => ?_, fun j x hx => ?_, h.nS, ?_, h.nP, h.nV⟩, fun A hA => ⟨hB A (hA.n (by omega)), hA.upd (by omega)⟩, Stc.upd (by omega)⟩
  · rw [updT_ne _ _ _ _ (by omega)]; exact h.dev j q hq
  · rw [updT_ne _ _ _ _ (by omega)]; exact h.ref j q hq
  · rw [updT_ne _ _ _ _ (by omega)]; exact h.book
  · rw [updT_ne _ _ _ _ (by omega)]; exact h.S
  · exact updT_same _ _ _
  · rw [updT_ne _ _ _ _ (by omega)]; exact h.P
  · rw [updT_ne _ _ _ _ (by omega)]; exact h.WP
  · rw [updT_ne _ _ _ _ (by omega)]; exact h.lS j x hx
  · rw [updT_ne _ _ _ _ (by omega)]; exact h.lP j x hx
  · rw [updT_ne _ _ _ _ (by omega)]
    rcases get_two hx with ⟨_, hx⟩ | ⟨e, rfl⟩ | ⟨e, rfl⟩
    · exact h.lW j x hx
    · rw [e, hn]; exact h1
    · rw [e, hn]; exact h2
  · rw [updT_ne _ _ _ _ (by omega)]; exact h.lV j x hx
  · refine ⟨by simp [hn], fun x hx => ?_⟩
    rcases List.mem_append.1 hx with hx | hx
    · exact h.nW.2 x hx
    · rcases (by simpa using hx : x = (s1, L1) ∨ x = (s2, L2)) with rfl | rfl
      · exact l1
      · exact l2
/-- A list of P more, not yet in the book. -/
theorem G5.newP (h : G5 W B T ps b bc) {n : Nat} (hn : b.sP.length ≤ n) {v : Value} {L : List Wr} (hb : Below W.heap.size W W') (hO : OwnK wrE W' W.heap.size v L) : G5 W' B (updT T (8 * n + 4) (thK wrE B v L)) ps b bc := by
  refine ⟨h.ga.newK _ hb hO, fun j q hq => ?_, fun j q hq => ?_, ?_, ?_, ?_, ?_, ?_, fun j x hx => ?_, fun j x hx => ?_, fun j x hx => ?_, fun j x hx => ?_, h.nS, h.nW, h.nP, h.nV⟩
  · rw [updT_ne _ _ _ _ (by omega)]; exact h.dev j q hq
  · rw [updT_ne _ _ _ _ (by omega)]; exact h.ref j q hq
  · rw [updT_ne _ _ _ _ (by omega)]; exact h.book
  · rw [updT_ne _ _ _ _ (by omega)]; exact h.S
  · rw [updT_ne _ _ _ _ (by omega)]; exact h.WS
  · rw [updT_ne _ _ _ _ (by omega)]; exact h.P
  · rw [updT_ne _ _ _ _ (by omega)]; exact h.WP
  · rw [updT_ne _ _ _ _ (by omega)]; exact h.lS j x hx
  · have := get_lt hx
    rw [updT_ne _ _ _ _ (by omega)]; exact h.lP j x hx
  · rw [updT_ne _ _ _ _ (by omega)]; exact h.lW j x hx
  · rw [updT_ne _ _ _ _ (by omega)]; exact h.lV j x hx
/-- Two lists of P come into the book. -/
theorem G5.appP (h : G5 W B T ps b bc) {n : Nat} (hn : b.sP.length = n) {s1 s2 : Slc} {L1 L2 : List Wr} (h1 : T (8 * n + 4) = some (thK wrE B s1.v L1)) (h2 : T (8 * (n + 1) + 4) = some (thK wrE B s2.v L2)) (l1 : L1.length = s1.n) (l2 : L2.length = s2.n) {g c : Nat}
    (hK : Keep b.P.v.ownBlock.toList W W') (hO : OwnG 56 W' B (.slice (some ⟨g, 0, none⟩) (n + 2) c) (b.sP.map sVal ++ [s1.v, s2.v])) (hg : b.P.v.ownBlock = some g ∨ W.heap.size ≤ g) :
    ∃ T', G5 W' B T' ps { b with P := ⟨some ⟨g, 0, none⟩, n + 2, c⟩, sP := b.sP ++ [(s1, L1), (s2, L2)] } bc ∧ (∀ A, Rws T A → KA B A W W' ∧ Rws T' A) ∧ Stc T T' := by
  obtain ⟨g9, hB⟩ := h.ga.putG (v' := .slice (some ⟨g, 0, none⟩) (n + 2) c) (xs' := (b.sP ++ [(s1, L1), (s2, L2)]).map sVal) h.P hK (by rw [List.map_append]; exact hO) (fun q hq => by
    have e : g = q := by simpa [Value.ownBlock] using hq
    subst e; exact hg)
  refine ⟨_, ⟨g9, fun j q hq => ?_, fun j q hq => ?_, ?_, ?_, ?_, ?_, ?_, fun j x hx => ?_, fun j x hx => ?_, fun j x hx => ?_, fun j x hx => ?_, h.nS, h.nW, ?_, h.nV⟩, fun A hA => ⟨hB A (hA.n (by omega)), hA.upd (by omega)⟩, Stc.upd (by omega)⟩
  · rw [updT_ne _ _ _ _ (by omega)]; exact h.dev j q hq
  · rw [updT_ne _ _ _ _ (by omega)]; exact h.ref j q hq
  · rw [updT_ne _ _ _ _ (by omega)]; exact h.book
  · rw [updT_ne _ _ _ _ (by omega)]; exact h.S
  · rw [updT_ne _ _ _ _ (by omega)]; exact h.WS
  · exact updT_same _ _ _
  · rw [updT_ne _ _ _ _ (by omega)]; exact h.WP
  · rw [updT_ne _ _ _ _ (by omega)]; exact h.lS j x hx
  · rw [updT_ne _ _ _ _ (by omega)]
    rcases get_two hx with ⟨_, hx⟩ | ⟨e, rfl⟩ | ⟨e, rfl⟩
    · exact h.lP j x hx
    · rw [e, hn]; exact h1
    · rw [e, hn]; exact h2
  · rw [updT_ne _ _ _ _ (by omega)]; exact h.lW j x hx
  · rw [updT_ne _ _ _ _ (by omega)]; exact h.lV j x hx
  · refine ⟨by simp [hn], fun x hx => ?_⟩
    rcases List.mem_append.1 hx with hx | hx
    · exact h.nP.2 x hx
    · rcases (by simpa using hx : x = (s1, L1) ∨ x = (s2, L2)) with rfl | rfl
      · exact l1
      · exact l2
/-- A list of V more, not yet in the book. -/
theorem G5.newV (h : G5 W B T ps b bc) {n : Nat} (hn : b.sV.length ≤ n) {v : Value} {L : List Wr} (hb : Below W.heap.size W W') (hO : OwnK wrE W' W.heap.size v L) : G5 W' B (updT T (8 * n + 6) (thKr wrE B v L)) ps b bc := by
  refine ⟨h.ga.newKr _ hb hO, fun j q hq => ?_, fun j q hq => ?_, ?_, ?_, ?_, ?_, ?_, fun j x hx => ?_, fun j x hx => ?_, fun j x hx => ?_, fun j x hx => ?_, h.nS, h.nW, h.nP, h.nV⟩
  · rw [updT_ne _ _ _ _ (by omega)]; exact h.dev j q hq
  · rw [updT_ne _ _ _ _ (by omega)]; exact h.ref j q hq
  · rw [updT_ne _ _ _ _ (by omega)]; exact h.book
  · rw [updT_ne _ _ _ _ (by omega)]; exact h.S
  · rw [updT_ne _ _ _ _ (by omega)]; exact h.WS
  · rw [updT_ne _ _ _ _ (by omega)]; exact h.P
  · rw [updT_ne _ _ _ _ (by omega)]; exact h.WP
  · rw [updT_ne _ _ _ _ (by omega)]; exact h.lS j x hx
  · rw [updT_ne _ _ _ _ (by omega)]; exact h.lP j x hx
  · rw [updT_ne _ _ _ _ (by omega)]; exact h.lW j x hx
  · have := get_lt hx
    rw [updT_ne _ _ _ _ (by omega)]; exact h.lV j x hx
theorem G5.againV (h : G5 W B T ps b bc) {n j9 : Nat} (hn : b.sV.length ≤ n) {v : Value} {L : List Wr} (hj : T j9 = some (thKr wrE B v L)) : G5 W B (updT T (8 * n + 6) (thKr wrE B v L)) ps b bc := by
  refine ⟨h.ga.againKr _ hj, fun j q hq => ?_, fun j q hq => ?_, ?_, ?_, ?_, ?_, ?_, fun j x hx => ?_, fun j x hx => ?_, fun j x hx => ?_, fun j x hx => ?_, h.nS, h.nW, h.nP, h.nV⟩
  · rw [updT_ne _ _ _ _ (by omega)]; exact h.dev j q hq
  · rw [updT_ne _ _ _ _ (by omega)]; exact h.ref j q hq
  · rw [updT_ne _ _ _ _ (by omega)]; exact h.book
  · rw [updT_ne _ _ _ _ (by omega)]; exact h.S
  · rw [updT_ne _ _ _ _ (by omega)]; exact h.WS
  · rw [updT_ne _ _ _ _ (by omega)]; exact h.P
  · rw [updT_ne _ _ _ _ (by omega)]; exact h.WP
  · rw [updT_ne _ _ _ _ (by omega)]; exact h.lS j x hx
  · rw [updT_ne _ _ _ _ (by omega)]; exact h.lP j x hx
  · rw [updT_ne _ _ _ _ (by omega)]; exact h.lW j x hx
  · have := get_lt hx
    rw [updT_ne _ _ _ _ (by omega)]; exact h.lV j x hx
/-- Two lists of V come into the book. -/
theorem G5.appV (h : G5 W B T ps b bc) {n : Nat} (hn : b.sV.length = n) {s1 s2 : Slc} {L1 L2 : List Wr} (h1 : T (8 * n + 6) = some (thKr wrE B s1.v L1)) (h2 : T (8 * (n + 1) + 6) = some (thKr wrE B s2.v L2)) (l1 : L1.length = s1.n) (l2 : L2.length = s2.n) {g c : Nat}
    (hK : Keep b.WP.v.ownBlock.toList W W') (hO : OwnG 56 W' B (.slice (some ⟨g, 0, none⟩) (n + 2) c) (b.sV.map sVal ++ [s1.v, s2.v])) (hg : b.WP.v.ownBlock = some g ∨ W.heap.size ≤ g) :
    ∃ T', G5 W' B T' ps { b with WP := ⟨some ⟨g, 0, none⟩, n + 2, c⟩, sV := b.sV ++ [(s1, L1), (s2, L2)] } bc ∧ (∀ A, Rws T A → KA B A W W' ∧ Rws T' A) ∧ Stc T T' := by
  obtain ⟨g9, hB⟩ := h.ga.putG (v' := .slice (some ⟨g, 0, none⟩) (n + 2) c) (xs' := (b.sV ++ [(s1, L1), (s2, L2)]).map sVal) h.WP hK (by rw [List.map_append]; exact hO) (fun q hq => by
    have e : g = q := by simpa [Value.ownBlock] using hq
    subst e; exact hg)
  refine ⟨_, ⟨g9, fun j q hq => ?_, fun j q hq => ?_, ?_, ?_, ?_, ?_, ?_, fun j x hx => ?_, fun j x hx => ?_, fun j x hx => ?_, fun j x hx => ?_, h.nS, h.nW, h.nP, ?_⟩, fun A hA => ⟨hB A (hA.n (by omega)), hA.upd (by omega)⟩, Stc.upd (by omega)⟩
  · rw [updT_ne _ _ _ _ (by omega)]; exact h.dev j q hq
  · rw [updT_ne _ _ _ _ (by omega)]; exact h.ref j q hq
  · rw [updT_ne _ _ _ _ (by omega)]; exact h.book
  · rw [updT_ne _ _ _ _ (by omega)]; exact h.S
  · rw [updT_ne _ _ _ _ (by omega)]; exact h.WS
  · rw [updT_ne _ _ _ _ (by omega)]; exact h.P
  · exact updT_same _ _ _
  · rw [updT_ne _ _ _ _ (by omega)]; exact h.lS j x hx
  · rw [updT_ne _ _ _ _ (by omega)]; exact h.lP j x hx
  · rw [updT_ne _ _ _ _ (by omega)]; exact h.lW j x hx
  · rw [updT_ne _ _ _ _ (by omega)]
    rcases get_two hx with ⟨_, hx⟩ | ⟨e, rfl⟩ | ⟨e, rfl⟩
    · exact h.lV j x hx
    · rw [e, hn]; exact h1
    · rw [e, hn]; exact h2
  · refine ⟨by simp [hn], fun x hx => ?_⟩
    rcases List.mem_append.1 hx with hx | hx
    · exact h.nV.2 x hx
    · rcases (by simpa using hx : x = (s1, L1) ∨ x = (s2, L2)) with rfl | rfl
      · exact l1
      · exact l2
end Go.Proofs.Ytadnfiikfhdphaa
