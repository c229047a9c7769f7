import Derived.Test.YtadnfiikfhdphaaQStm
namespace Go.Proofs.Ytadnfiikfhdphaa
open Go.RowKit

/-! DeviceScript's own: copies, lists of devices -/
variable {W W' : World} {B : Nat} {T : Nat → Option Th} {ps : List Pr5} {b : Bk} {bc : Array Value}
theorem G5.side0 (h : G5 W B T ps b bc) {k : Nat} {t : Th} (hk : k = 0 ∨ k = 8 ∨ k = 56) (hg : Ga W' B (updT T k t)) : G5 W' B (updT T k t) ps b bc := by
  refine ⟨hg, fun j q hq => ?_, fun j q hq => ?_, ?_, ?_, ?_, ?_, ?_, fun j x hx => ?_, fun j x hx => ?_, fun j x hx => ?_, fun j x hx => ?_, h.nS, h.nW, h.nP, h.nV⟩
  · rw [updT_ne _ _ _ _ (by omega)]; exact h.dev j q hq
  · rw [updT_ne _ _ _ _ (by omega)]; exact h.ref j q hq
  · rw [updT_ne _ _ _ _ (by omega)]; exact h.book
  · rw [updT_ne _ _ _ _ (by omega)]; exact h.S
  · rw [updT_ne _ _ _ _ (by omega)]; exact h.WS
  · rw [updT_ne _ _ _ _ (by omega)]; exact h.P
  · rw [updT_ne _ _ _ _ (by omega)]; exact h.WP
  · rw [updT_ne _ _ _ _ (by omega)]; exact h.lS j x hx
  · rw [updT_ne _ _ _ _ (by omega)]; exact h.lP j x hx
  · rw [updT_ne _ _ _ _ (by omega)]; exact h.lW j x hx
  · rw [updT_ne _ _ _ _ (by omega)]; exact h.lV j x hx
theorem G5.copyD (h : G5 W B T ps b bc) {k m : Nat} {p : Pr5} (hp : ps[k]? = some p) (hm : ps.length = m) (hL : Lim 1099511627776 p.sd) :
    Calls Try.prog 10 #[p.d] W fun e w' => ∃ a T', e = .returned (.pointer (some a)) ∧ G5 w' B T' ps b bc ∧ T' (8 * m + 1) = some (thD (.pointer (some a)) p.sd) ∧ St3 T T' ∧ Below W.heap.size W w' := by
  obtain ⟨F, R, hd, hop⟩ := h.ga.openC (h.dev k p hp)
  refine (devOk.copy W p.d p.sd F R hd hL.pend).mono ?_
  rintro e w' ⟨d', F', R', rfl, x1, x2, x3, hb⟩
  obtain ⟨a, rfl⟩ := devOk.ptr x1
  have hg := hop w' (8 * m + 1) (thD (.pointer (some a)) p.sd) F' R' hb x1 x2 x3
  refine ⟨a, _, rfl, ⟨hg, fun j q hq => ?_, fun j q hq => ?_, ?_, ?_, ?_, ?_, ?_, fun j x hx => ?_, fun j x hx => ?_, fun j x hx => ?_, fun j x hx => ?_, h.nS, h.nW, h.nP, h.nV⟩, updT_same _ _ _, ⟨updT_ne _ _ _ _ (by omega), updT_ne _ _ _ _ (by omega), updT_ne _ _ _ _ (by omega)⟩, hb⟩
  · have := get_lt hq
    rw [updT_ne _ _ _ _ (by omega)]; exact h.dev j q hq
  · rw [updT_ne _ _ _ _ (by omega)]; exact h.ref j q hq
  · rw [updT_ne _ _ _ _ (by omega)]; exact h.book
  · rw [updT_ne _ _ _ _ (by omega)]; exact h.S
  · rw [updT_ne _ _ _ _ (by omega)]; exact h.WS
  · rw [updT_ne _ _ _ _ (by omega)]; exact h.P
  · rw [updT_ne _ _ _ _ (by omega)]; exact h.WP
  · rw [updT_ne _ _ _ _ (by omega)]; exact h.lS j x hx
  · rw [updT_ne _ _ _ _ (by omega)]; exact h.lP j x hx
  · rw [updT_ne _ _ _ _ (by omega)]; exact h.lW j x hx
  · rw [updT_ne _ _ _ _ (by omega)]; exact h.lV j x hx
theorem RefIs.leB {w : World} {B B' r : Nat} {st : DSt} {F : List Nat} (h : RefIs w B r st F) (hb : B' ≤ B) : RefIs w B' r st F := by
  obtain ⟨vl, vp, h1, h2, h3, h4, h5, h6, h7, h8⟩ := h
  exact ⟨vl, vp, h1, h2.le hb, h3.le hb, h4, h5, h6, fun q hq => ⟨Nat.le_trans hb (h7 q hq).1, (h7 q hq).2⟩, h8⟩
theorem get_one {α : Type} {l : List α} {k : Nat} {x p : α} (h : (l ++ [p])[k]? = some x) : (k < l.length ∧ l[k]? = some x) ∨ (k = l.length ∧ x = p) := by
  rw [List.getElem?_append] at h
  split at h
  · rename_i h9; exact .inl ⟨h9, h⟩
  · rename_i h9
    rcases hk : k - l.length with _ | m
    · rw [hk] at h; simp at h; exact .inr ⟨by omega, h.symm⟩
    · rw [hk] at h; simp at h
theorem G5.copyR (h : G5 W B T ps b bc) {k m : Nat} {p : Pr5} (hp : ps[k]? = some p) (hm : ps.length = m) (hL : Lim 1099511627776 p.sr) {d : Value} {st : DSt} (hD : T (8 * m + 1) = some (thD d st)) :
    Calls Try.prog 11 #[.pointer (some ⟨p.r, 0, none⟩)] W fun e w' => ∃ r T', e = .returned (.pointer (some ⟨r, 0, none⟩)) ∧ G5 w' B T' (ps ++ [⟨d, r, st, p.sr⟩]) b bc ∧ St3 T T' ∧ Below W.heap.size W w' := by
  obtain ⟨F, hd⟩ := h.isRef hp
  refine (refCopy_any W B p.r p.sr F hd hL.pend).mono ?_
  rintro e w' ⟨r, G, rfl, x1, hb⟩
  have hg := h.ga.add (k := 8 * m + 2) (t' := thRf B r p.sr) hb ⟨G, G, ⟨x1.leB h.ga.size, rfl⟩, fun q hq => (x1.lt q hq).1, fun q hq => (x1.lt q hq).1⟩
  refine ⟨r, _, rfl, ⟨hg, fun j q hq => ?_, fun j q hq => ?_, ?_, ?_, ?_, ?_, ?_, fun j x hx => ?_, fun j x hx => ?_, fun j x hx => ?_, fun j x hx => ?_, h.nS, h.nW, h.nP, h.nV⟩, ⟨updT_ne _ _ _ _ (by omega), updT_ne _ _ _ _ (by omega), updT_ne _ _ _ _ (by omega)⟩, hb⟩
  · rw [updT_ne _ _ _ _ (by omega)]
    rcases get_one hq with ⟨_, hq⟩ | ⟨e, rfl⟩
    · exact h.dev j q hq
    · rw [e, hm]; exact hD
  · rcases get_one hq with ⟨hlt, hq⟩ | ⟨e, rfl⟩
    · rw [updT_ne _ _ _ _ (by omega)]; exact h.ref j q hq
    · rw [e, hm]; exact updT_same _ _ _
  · rw [updT_ne _ _ _ _ (by omega)]; exact h.book
  · rw [updT_ne _ _ _ _ (by omega)]; exact h.S
  · rw [updT_ne _ _ _ _ (by omega)]; exact h.WS
  · rw [updT_ne _ _ _ _ (by omega)]; exact h.P
  · rw [updT_ne _ _ _ _ (by omega)]; exact h.WP
  · rw [updT_ne _ _ _ _ (by omega)]; exact h.lS j x hx
  · rw [updT_ne _ _ _ _ (by omega)]; exact h.lP j x hx
  · rw [updT_ne _ _ _ _ (by omega)]; exact h.lW j x hx
  · rw [updT_ne _ _ _ _ (by omega)]; exact h.lV j x hx
def rV (p : Pr5) : Value := .pointer (some ⟨p.r, 0, none⟩)
def bk0 (g : Nat) : Bk := ⟨g, ⟨none, 0, 0⟩, ⟨none, 0, 0⟩, ⟨none, 0, 0⟩, ⟨none, 0, 0⟩, [], [], [], []⟩
theorem ga_nil {e : TypeId} (h : Ga W B T) (k : Nat) : Ga W B (updT T k (thG e B (.slice none 0 0) [])) :=
  h.add (Below.refl _ _) ⟨[], [], ⟨OwnG.nil _ _ _, rfl, rfl⟩, fun _ hq => (by cases hq), fun _ hq => (by cases hq)⟩
theorem info_dp : (Try.prog.info? 28).map (fun i => (i.zero, i.size, i.bytes)) = some (some (.pointer none), 1, 8) := by kernel_rfl
theorem eltDp : Elt 37 28 8 := ⟨Try.underlying37, by
  obtain ⟨i, hi, hz⟩ := Option.map_eq_some_iff.1 info_dp
  simp only [Prod.mk.injEq] at hz
  exact ⟨i, _, hi, hz.1, hz.2.1, hz.2.2, rfl⟩⟩
theorem info_rp : (Try.prog.info? 32).map (fun i => (i.zero, i.size, i.bytes)) = some (some (.pointer none), 1, 8) := by kernel_rfl
theorem eltRp : Elt 38 32 8 := ⟨Try.underlying38, by
  obtain ⟨i, hi, hz⟩ := Option.map_eq_some_iff.1 info_rp
  simp only [Prod.mk.injEq] at hz
  exact ⟨i, _, hi, hz.1, hz.2.1, hz.2.2, rfl⟩⟩
structure Inv5 (B : Nat) (w : World) (dv rv : Value) (gk i np : Nat) (T : Nat → Option Th) (ps : List Pr5) (b : Bk) : Prop where
  g : G5 w B T ps b (bkA b)
  ds : T 0 = some (thG 28 B dv (ps.map Pr5.d))
  rs : T 8 = some (thG 32 B rv (ps.map rV))
  len : ps.length = np
  n1 : 1 ≤ np
  n3 : np ≤ 3
  eq : ∀ p ∈ ps, p.sd = p.sr ∧ Lim i p.sd ∧ ∃ a, p.d = .pointer (some a)
  bk : BkOk i b
  ggk : b.g = gk
theorem own_lit1 (e : TypeId) (w : World) (B : Nat) (u : Value) (hB : B ≤ w.heap.size) : OwnG e (w.alloc (.cells #[u] e)) B (.slice (some ⟨w.heap.size, 0, none⟩) 1 1) [u] := (OwnG.lit e w [u] (by unfold maxLen; simp)).le hB
theorem inv5_start (h : Ga W B T) {a : Addr} {r : Nat} {st : DSt} (h1 : T 1 = some (thD (.pointer (some a)) st)) (h2 : T 2 = some (thRf B r st)) (hL : Lim 0 st) :
    ∃ T', Inv5 B (((W.alloc (.cells #[.pointer (some a)] 28)).alloc (.cells #[.pointer (some ⟨r, 0, none⟩)] 32)).alloc (.cells #[.slice none 0 0, .slice none 0 0, .slice none 0 0, .slice none 0 0] 43)) (.slice (some ⟨W.heap.size, 0, none⟩) 1 1) (.slice (some ⟨W.heap.size + 1, 0, none⟩) 1 1) (W.heap.size + 1 + 1) 0 1 T' [⟨.pointer (some a), r, st, st⟩] (bk0 (W.heap.size + 1 + 1)) := by
  have b1 := below_alloc W (.cells #[.pointer (some a)] 28)
  have g1 := h.newG (e := 28) 0 b1 (own_lit1 _ W W.heap.size (.pointer (some a)) (Nat.le_refl _)) (own_lit1 _ W B (.pointer (some a)) h.size)
  have b2 := below_alloc (W.alloc (.cells #[.pointer (some a)] 28)) (.cells #[.pointer (some ⟨r, 0, none⟩)] 32)
  have g2 := g1.newG (e := 32) 8 b2 (own_lit1 _ _ _ (.pointer (some ⟨r, 0, none⟩)) (Nat.le_refl _)) (own_lit1 _ _ B (.pointer (some ⟨r, 0, none⟩)) g1.size)
  have b3 := below_alloc ((W.alloc (.cells #[.pointer (some a)] 28)).alloc (.cells #[.pointer (some ⟨r, 0, none⟩)] 32)) (.cells #[.slice none 0 0, .slice none 0 0, .slice none 0 0, .slice none 0 0] 43)
  have g3 := g2.newRow 16 (c := #[.slice none 0 0, .slice none 0 0, .slice none 0 0, .slice none 0 0]) b3 (RowC.new _ _ _) (Nat.le_refl _)
  have g4 := ga_nil (e := 24) g3 24
  have g5 := ga_nil (e := 24) g4 32
  have g6 := ga_nil (e := 56) g5 40
  have g7 := ga_nil (e := 56) g6 48
  simp only [World.size_alloc] at g7
  refine ⟨_, ⟨⟨g7, fun j q hq => ?_, fun j q hq => ?_, ?_, ?_, ?_, ?_, ?_, fun j x hx => ?_, fun j x hx => ?_, fun j x hx => ?_, fun j x hx => ?_, ⟨rfl, fun _ hx => (by cases hx)⟩, ⟨rfl, fun _ hx => (by cases hx)⟩, ⟨rfl, fun _ hx => (by cases hx)⟩, ⟨rfl, fun _ hx => (by cases hx)⟩⟩, ?_, ?_, rfl, by omega, by omega, fun p hp => ?_, ⟨rfl, rfl, by simp [bk0], by simp [bk0], fun _ hx => (by cases hx), fun _ hx => (by cases hx)⟩, rfl⟩⟩
  · obtain ⟨rfl, rfl⟩ : j = 0 ∧ q = ⟨.pointer (some a), r, st, st⟩ := by
      rcases j with _ | j
      · simp at hq; exact ⟨rfl, hq.symm⟩
      · simp at hq
    simp only [updT]
    simp
    exact h1
  · obtain ⟨rfl, rfl⟩ : j = 0 ∧ q = ⟨.pointer (some a), r, st, st⟩ := by
      rcases j with _ | j
      · simp at hq; exact ⟨rfl, hq.symm⟩
      · simp at hq
    simp only [updT]
    simp
    exact h2
  · simp [updT]; rfl
  · simp [updT]; rfl
  · simp [updT]; rfl
  · simp [updT]; rfl
  · simp [updT]; rfl
  · simp [bk0] at hx
  · simp [bk0] at hx
  · simp [bk0] at hx
  · simp [bk0] at hx
  · simp [updT]
  · simp [updT, rV]
  · obtain rfl : p = ⟨.pointer (some a), r, st, st⟩ := by simpa using hp
    exact ⟨rfl, hL, a, rfl⟩
end Go.Proofs.Ytadnfiikfhdphaa
