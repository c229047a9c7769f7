import Derived.Test.YtadnfiikfhdphaaQGdi
namespace Go.Proofs.Ytadnfiikfhdphaa
open Go.RowKit

/-! answered: what it leaves -/
theorem keep_setCell (w : World) (g i : Nat) (v : Value) : Keep [g] w (w.setCell ⟨g, i, none⟩ v) :=
  have hb : Below g w (w.setCell ⟨g, i, none⟩ v) := (Below.refl g w).setCell (p := ⟨g, i, none⟩) (Nat.le_refl _) v
  ⟨hb.os, hb.tape, hb.output, hb.size, fun k _ hk => heap_setCell_ne w g k i v (fun e => hk (by simp [e]))⟩
theorem At5.store {B : Nat} {A : List Nat} {T0 : Nat → Option Th} {ps : List Pr5} {b : Bk} {bc : Array Value} {w : World} (h : At5 B A T0 ps b bc w) (i : Nat) (v : Value) : At5 B A T0 ps b (bc.setIfInBounds i v) (w.setCell ⟨b.g, i, none⟩ v) ∧ Below B w (w.setCell ⟨b.g, i, none⟩ v) := by
  obtain ⟨T, h1, h2, h3⟩ := h
  have hR := h1.ga.isRow h1.book
  obtain ⟨g9, hB⟩ := h1.ga.putRow h1.book (keep_setCell w b.g i v) (hR.set i v)
  obtain ⟨T', g1, g2, g3⟩ := h1.row (keep_setCell w b.g i v) (hR.set i v)
  refine ⟨⟨updT T 16 (thRow b.g (bc.setIfInBounds i v)), ?_, fun a ha => ?_, h3.trans (Stc.upd (by omega))⟩, (hB [] (fun _ ha => by cases ha)).below h1.ga.size⟩
  · refine ⟨g9, fun j q hq => ?_, fun j q hq => ?_, updT_same _ _ _, ?_, ?_, ?_, ?_, fun j x hx => ?_, fun j x hx => ?_, fun j x hx => ?_, fun j x hx => ?_, h1.nS, h1.nW, h1.nP, h1.nV⟩
    · rw [updT_ne _ _ _ _ (by omega)]; exact h1.dev j q hq
    · rw [updT_ne _ _ _ _ (by omega)]; exact h1.ref j q hq
    · rw [updT_ne _ _ _ _ (by omega)]; exact h1.S
    · rw [updT_ne _ _ _ _ (by omega)]; exact h1.WS
    · rw [updT_ne _ _ _ _ (by omega)]; exact h1.P
    · rw [updT_ne _ _ _ _ (by omega)]; exact h1.WP
    · rw [updT_ne _ _ _ _ (by omega)]; exact h1.lS j x hx
    · rw [updT_ne _ _ _ _ (by omega)]; exact h1.lP j x hx
    · rw [updT_ne _ _ _ _ (by omega)]; exact h1.lW j x hx
    · rw [updT_ne _ _ _ _ (by omega)]; exact h1.lV j x hx
  · obtain ⟨j, c, hj, e⟩ := h2 a ha
    by_cases e9 : j = 16
    · subst e9
      rw [h1.book] at e
      have hP : (thRow b.g bc).P w [b.g] [b.g] := ⟨hR, rfl, rfl⟩
      rw [Option.some.inj e] at hP
      have : a = b.g := by have := hP.2.1; simpa using this.symm
      subst this
      exact ⟨16, _, .inl rfl, updT_same _ _ _⟩
    · exact ⟨j, c, hj, by rw [updT_ne _ _ _ _ e9]; exact e⟩
theorem At5.store1 {B gk : Nat} {A : List Nat} {T0 : Nat → Option Th} {ps : List Pr5} {b : Bk} {bc : Array Value} {w : World} (h : At5 B A T0 ps b bc w) (hg : b.g = gk) (i : Nat) (v : Value) : At5 B A T0 ps b (bc.setIfInBounds i v) (w.setCell ⟨gk, i, none⟩ v) ∧ Below B w (w.setCell ⟨gk, i, none⟩ v) ∧ w.frozen? ⟨gk, i, none⟩ = false ∧ w.cell? ⟨gk, i, none⟩ = bc[i]? := by
  subst hg
  refine ⟨(h.store i v).1, (h.store i v).2, ?_, ?_⟩
  · obtain ⟨T, h1, -⟩ := h
    exact (h1.ga.isRow h1.book).frozen i
  · obtain ⟨T, h1, -⟩ := h
    exact (h1.ga.isRow h1.book).cell i
theorem At5.bcell {B gk : Nat} {A : List Nat} {T0 : Nat → Option Th} {ps : List Pr5} {b : Bk} {bc : Array Value} {w : World} (h : At5 B A T0 ps b bc w) (hg : b.g = gk) (i : Nat) : w.cell? ⟨gk, i, none⟩ = bc[i]? := by
  subst hg
  obtain ⟨T, h1, -⟩ := h
  exact (h1.ga.isRow h1.book).cell i
structure BkOk (n : Nat) (b : Bk) : Prop where
  eS : b.sS.map (·.2) = b.sW.map (·.2)
  eP : b.sP.map (·.2) = b.sV.map (·.2)
  cS : b.sS.length ≤ 2 * n
  cP : b.sP.length ≤ 2 * n
  bS : ∀ x ∈ b.sS, x.2.length ≤ 1024
  bP : ∀ x ∈ b.sP, x.2.length ≤ n
def St3 (T T' : Nat → Option Th) : Prop := T' 0 = T 0 ∧ T' 8 = T 8 ∧ T' 56 = T 56
def AnsPost (W : World) (B : Nat) (T : Nat → Option Th) (ps : List Pr5) (b : Bk) (k : Nat) (p : Pr5) (n : Nat) (e : Ending) (w' : World) : Prop :=
  e = .returned (.bool true) ∧ ∃ T' st' b', G5 w' B T' (ps.set k ⟨p.d, p.r, st', st'⟩) b' (bkA b') ∧ b'.g = b.g ∧ Lim (n + 1) st' ∧ BkOk (n + 1) b' ∧ St3 T T' ∧ Below B W w'
theorem BkOk.up {n : Nat} {b : Bk} (h : BkOk n b) : BkOk (n + 1) b := ⟨h.eS, h.eP, by have := h.cS; omega, by have := h.cP; omega, h.bS, fun x hx => Nat.le_succ_of_le (h.bP x hx)⟩
theorem Lim.up {n : Nat} {st : DSt} (h : Lim n st) : Lim (n + 1) st := ⟨Nat.le_succ_of_le h.pend, Nat.le_succ_of_le h.wt, Nat.le_succ_of_le h.rd, Nat.le_succ_of_le h.fl⟩
theorem Lim.le {n m : Nat} {st : DSt} (h : Lim n st) (hm : n ≤ m) : Lim m st := ⟨Nat.le_trans h.pend hm, Nat.le_trans h.wt hm, Nat.le_trans h.rd hm, Nat.le_trans h.fl hm⟩
theorem Lim.may {n : Nat} {st : DSt} (h : Lim n st) : Lim n (mayS st) := by
  obtain ⟨h1, h2, h3, h4, h5⟩ := mayS_same st
  exact ⟨by rw [h2]; exact h.pend, by rw [h4]; exact h.wt, by rw [h3]; exact h.rd, by rw [h5]; exact h.fl⟩
theorem Lim.write {n : Nat} {st : DSt} (h : Lim n st) (a : Int) (s : Sc) : Lim (n + 1) (wrSt st a s) := by
  unfold wrSt
  have h2 := h.may
  split
  · exact h.up
  · split
    · split
      · exact ⟨by simp; exact h.pend, by simp only; have := h.wt; omega, Nat.le_succ_of_le h2.rd, Nat.le_succ_of_le h2.fl⟩
      · exact h2.up
    · exact h.up
theorem Lim.flush {n : Nat} {st : DSt} (h : Lim n st) : Lim (n + 1) (flSt st) := by
  unfold flSt
  have h2 := h.may
  split
  · exact h.up
  · split
    · exact ⟨by simp, Nat.le_succ_of_le h2.wt, Nat.le_succ_of_le h2.rd, by simp only; have := h.fl; omega⟩
    · exact h2.up
theorem Lim.read {n : Nat} {st : DSt} (h : Lim n st) (a : Int) : Lim (n + 1) (rdSt st a) := by
  unfold rdSt
  split
  · exact ⟨Nat.le_succ_of_le h.pend, Nat.le_succ_of_le h.wt, by simp only; have := h.rd; omega, Nat.le_succ_of_le h.fl⟩
  · exact h.up
theorem Lim.stop {n : Nat} {st : DSt} (h : Lim n st) (a : Int) : Lim (n + 1) (stSt st a) := ⟨Nat.le_succ_of_le h.pend, Nat.le_succ_of_le h.wt, Nat.le_succ_of_le h.rd, Nat.le_succ_of_le h.fl⟩
theorem Lim.restart {n : Nat} {st : DSt} (h : Lim n st) (l : List Bool) : Lim (n + 1) (reSt st l) := ⟨by simp [reSt], Nat.le_succ_of_le h.wt, Nat.le_succ_of_le h.rd, Nat.le_succ_of_le h.fl⟩
theorem set_set {α : Type} (l : List α) (k : Nat) (x y : α) : (l.set k x).set k y = l.set k y := List.set_set ..
theorem set_getk {ps : List Pr5} {k : Nat} {p q : Pr5} (hp : ps[k]? = some p) : (ps.set k q)[k]? = some q := by
  have : k < ps.length := (List.getElem?_eq_some_iff.1 hp).1
  simp [this]
/-- The act's own row joins the game. -/
theorem G5.box {W : World} {B : Nat} {T : Nat → Option Th} {ps : List Pr5} {b : Bk} {bc : Array Value} (h : G5 W B T ps b bc) (c : Array Value) (ty : TypeId) : At5 B [W.heap.size, b.g] (updT T 64 (thRow W.heap.size c)) ps b bc (W.alloc (.cells c ty)) := by
  have g9 := h.ga.newRow 64 (g := W.heap.size) (c := c) (below_alloc W (.cells c ty)) (RowC.new _ _ _) (Nat.le_refl _)
  refine ⟨_, ⟨g9, fun j q hq => ?_, fun j q hq => ?_, ?_, ?_, ?_, ?_, ?_, fun j x hx => ?_, fun j x hx => ?_, fun j x hx => ?_, fun j x hx => ?_, h.nS, h.nW, h.nP, h.nV⟩, fun a ha => ?_, Stc.refl _⟩
  · rw [updT_ne _ _ _ _ (by omega)]; exact h.dev j q hq
  · rw [updT_ne _ _ _ _ (by omega)]; exact h.ref j q hq
  · rw [updT_ne _ _ _ _ (by omega)]; exact h.book
  · rw [updT_ne _ _ _ _ (by omega)]; exact h.S
  · rw [updT_ne _ _ _ _ (by omega)]; exact h.WS
  · rw [updT_ne _ _ _ _ (by omega)]; exact h.P
  · rw [updT_ne _ _ _ _ (by omega)]; exact h.WP
  · rw [updT_ne _ _ _ _ (by omega)]; exact h.lS j x hx
  · rw [updT_ne _ _ _ _ (by omega)]; exact h.lP j x hx
  · rw [updT_ne _ _ _ _ (by omega)]; exact h.lW j x hx
  · rw [updT_ne _ _ _ _ (by omega)]; exact h.lV j x hx
  · rcases List.mem_cons.1 ha with rfl | ha
    · exact ⟨64, c, .inr (.inr rfl), updT_same _ _ _⟩
    · obtain rfl : a = b.g := by simpa using ha
      exact ⟨16, bc, .inl rfl, by rw [updT_ne _ _ _ _ (by omega)]; exact h.book⟩
theorem At5.fin0 {W w' : World} {B : Nat} {A : List Nat} {T T0 : Nat → Option Th} {ps : List Pr5} {b b' : Bk} {k n : Nat} {p p' : Pr5} {st' : DSt} (h : At5 B A T0 (ps.set k p') b' (bkA b') w') (hT : T0 0 = T 0 ∧ T0 8 = T 8 ∧ T0 56 = T 56) (e : p' = ⟨p.d, p.r, st', st'⟩) (hg : b'.g = b.g) (hL : Lim (n + 1) st') (hb : BkOk (n + 1) b') (hB : Below B W w') : AnsPost W B T ps b k p n (.returned (.bool true)) w' := by
  subst e
  obtain ⟨T', h1, h2, h3⟩ := h
  exact ⟨rfl, T', st', b', h1, hg, hL, hb, ⟨h3.1.trans hT.1, h3.2.1.trans hT.2.1, h3.2.2.1.trans hT.2.2⟩, hB⟩
theorem At5.fin {W w' : World} {B : Nat} {A : List Nat} {T : Nat → Option Th} {th : Th} {ps : List Pr5} {b b' : Bk} {k n : Nat} {p p' : Pr5} {st' : DSt} (h : At5 B A (updT T 64 th) (ps.set k p') b' (bkA b') w') (e : p' = ⟨p.d, p.r, st', st'⟩) (hg : b'.g = b.g) (hL : Lim (n + 1) st') (hb : BkOk (n + 1) b') (hB : Below B W w') : AnsPost W B T ps b k p n (.returned (.bool true)) w' :=
  h.fin0 ⟨updT_ne _ _ _ _ (by omega), updT_ne _ _ _ _ (by omega), updT_ne _ _ _ _ (by omega)⟩ e hg hL hb hB
theorem At5.finS {W w' : World} {B : Nat} {A : List Nat} {T : Nat → Option Th} {th th' : Th} {ps : List Pr5} {b b' : Bk} {k n : Nat} {p p' : Pr5} {st' : DSt} (h : At5 B A (updT (updT T 64 th) 72 th') (ps.set k p') b' (bkA b') w') (e : p' = ⟨p.d, p.r, st', st'⟩) (hg : b'.g = b.g) (hL : Lim (n + 1) st') (hb : BkOk (n + 1) b') (hB : Below B W w') : AnsPost W B T ps b k p n (.returned (.bool true)) w' := by
  refine h.fin0 ⟨?_, ?_, ?_⟩ e hg hL hb hB
  all_goals rw [updT_ne _ _ _ _ (by omega), updT_ne _ _ _ _ (by omega)]
/-- One thing more beside the game. -/
theorem At5.side {W W' : World} {B : Nat} {A : List Nat} {T0 : Nat → Option Th} {ps : List Pr5} {b : Bk} {bc : Array Value} (h : At5 B A T0 ps b bc W) (t : Th) (hb : Below W.heap.size W W') (ht : ∃ F' R', t.P W' F' R' ∧ (∀ q ∈ F', W.heap.size ≤ q) ∧ ∀ q ∈ R', W.heap.size ≤ q) : At5 B A (updT T0 72 t) ps b bc W' := by
  obtain ⟨T, h, h2, h3⟩ := h
  refine ⟨updT T 72 t, ⟨h.ga.add hb ht, fun j q hq => ?_, fun j q hq => ?_, ?_, ?_, ?_, ?_, ?_, fun j x hx => ?_, fun j x hx => ?_, fun j x hx => ?_, fun j x hx => ?_, h.nS, h.nW, h.nP, h.nV⟩, h2.upd (by omega), ?_⟩
  · rw [updT_ne _ _ _ _ (by omega)]; exact h.dev j q hq
  · rw [updT_ne _ _ _ _ (by omega)]; exact h.ref j q hq
  · rw [updT_ne _ _ _ _ (by omega)]; exact h.book
  · rw [updT_ne _ _ _ _ (by omega)]; exact h.S
  · rw [updT_ne _ _ _ _ (by omega)]; exact h.WS
  · rw [updT_ne _ _ _ _ (by omega)]; exact h.P
  · rw [updT_ne _ _ _ _ (by omega)]; exact h.WP
  · rw [updT_ne _ _ _ _ (by omega)]; exact h.lS j x hx
  · rw [updT_ne _ _ _ _ (by omega)]; exact h.lP j x hx
  · rw [updT_ne _ _ _ _ (by omega)]; exact h.lW j x hx
  · rw [updT_ne _ _ _ _ (by omega)]; exact h.lV j x hx
  · refine ⟨?_, ?_, ?_, ?_, ?_⟩
    · rw [updT_ne _ _ _ _ (by omega), updT_ne _ _ _ _ (by omega)]; exact h3.1
    · rw [updT_ne _ _ _ _ (by omega), updT_ne _ _ _ _ (by omega)]; exact h3.2.1
    · rw [updT_ne _ _ _ _ (by omega), updT_ne _ _ _ _ (by omega)]; exact h3.2.2.1
    · rw [updT_ne _ _ _ _ (by omega), updT_ne _ _ _ _ (by omega)]; exact h3.2.2.2.1
    · rw [updT_same, updT_same]
theorem At5.get72 {W : World} {B : Nat} {A : List Nat} {T0 : Nat → Option Th} {ps : List Pr5} {b : Bk} {bc : Array Value} {t : Th} (h : At5 B A (updT T0 72 t) ps b bc W) : ∃ F R, t.P W F R := by
  obtain ⟨T, h1, h2, h3⟩ := h
  exact h1.ga.get (h3.2.2.2.2.trans (updT_same _ _ _))
theorem ScR.keepsF {F : List Nat} {w w' : World} {g : Nat} {s : Sc} (h : ScR w g s) (hK : Keep F w w') (hq : g ∉ F) : ScR w' g s := by
  have e := hK.block g h.lt hq
  unfold ScR rowOk rowAt at *
  rw [e]
  exact h
def thSc (g : Nat) (s : Sc) : Th where
  P w F R := ScR w g s ∧ F = [g] ∧ R = F
  keeps := fun ⟨h1, h2, h3⟩ hK hd => ⟨h1.keepsF hK (hd g (by rw [h3, h2]; simp)), h2, h3⟩
  sub := fun ⟨_, _, h3⟩ q hq => by rw [h3]; exact hq
  lt := fun ⟨h1, h2, h3⟩ q hq => by
    rw [h3, h2, List.mem_singleton] at hq
    subst hq
    exact h1.lt
theorem set_same5 {ps : List Pr5} {k : Nat} {p : Pr5} (hp : ps[k]? = some p) : ps.set k p = ps := by
  apply List.ext_getElem?
  intro i
  rw [List.getElem?_set]
  split
  · rename_i hj; subst hj
    split
    · exact hp.symm
    · rename_i hj; rw [List.getElem?_eq_none (by omega)]
  · rfl
theorem BkOk.addS {n : Nat} {b : Bk} (h : BkOk n b) {s t u v : Slc} {L : List Sc} (hL : L.length ≤ 1024) (b2 : Bk) (e1 : b2.sS = b.sS ++ [(s, L), (t, L)]) (e2 : b2.sW = b.sW ++ [(u, L), (v, L)]) (e3 : b2.sP = b.sP) (e4 : b2.sV = b.sV) : BkOk (n + 1) b2 := by
  refine ⟨?_, ?_, ?_, ?_, ?_, ?_⟩
  · rw [e1, e2, List.map_append, List.map_append, h.eS]; rfl
  · rw [e3, e4]; exact h.eP
  · rw [e1, List.length_append]; have := h.cS; simp only [List.length_cons, List.length_nil]; omega
  · rw [e3]; have := h.cP; omega
  · rw [e1]
    intro x hx
    rcases List.mem_append.1 hx with hx | hx
    · exact h.bS x hx
    · rcases (by simpa using hx : x = (s, L) ∨ x = (t, L)) with rfl | rfl <;> exact hL
  · rw [e3]; exact fun x hx => Nat.le_succ_of_le (h.bP x hx)
theorem BkOk.addP {n : Nat} {b : Bk} (h : BkOk n b) {s t u v : Slc} {L : List Wr} (hL : L.length ≤ n) (b2 : Bk) (e1 : b2.sP = b.sP ++ [(s, L), (t, L)]) (e2 : b2.sV = b.sV ++ [(u, L), (v, L)]) (e3 : b2.sS = b.sS) (e4 : b2.sW = b.sW) : BkOk (n + 1) b2 := by
  refine ⟨?_, ?_, ?_, ?_, ?_, ?_⟩
  · rw [e3, e4]; exact h.eS
  · rw [e1, e2, List.map_append, List.map_append, h.eP]; rfl
  · rw [e3]; have := h.cS; omega
  · rw [e1, List.length_append]; have := h.cP; simp only [List.length_cons, List.length_nil]; omega
  · rw [e3]; exact h.bS
  · rw [e1]
    intro x hx
    rcases List.mem_append.1 hx with hx | hx
    · exact Nat.le_succ_of_le (h.bP x hx)
    · rcases (by simpa using hx : x = (s, L) ∨ x = (t, L)) with rfl | rfl <;> exact Nat.le_succ_of_le hL
theorem info_boolD : (Try.prog.info? 4).map (fun i => (i.zero, i.size, i.bytes)) = some (some (.bool false), 1, 1) := by kernel_rfl
theorem boolEltD : Elt 44 4 1 := ⟨Try.underlying44, by
  obtain ⟨i, hi, hz⟩ := Option.map_eq_some_iff.1 info_boolD
  simp only [Prod.mk.injEq] at hz
  exact ⟨i, _, hi, hz.1, hz.2.1, hz.2.2, rfl⟩⟩
theorem isG_belowB {w w' : World} {B n c : Nat} {y : Option Addr} {xs : List Value} (h : IsG w (.slice y n c) xs) (hb : Below B w w') (_hB : B ≤ w.heap.size) (hy : xs ≠ [] → ∀ x, y = some x → x.block < B) : IsG w' (.slice y n c) xs := by
  rcases h with ⟨e, rfl⟩ | ⟨x, c', e, hc⟩
  · exact .inl ⟨e, rfl⟩
  · cases e
    refine .inr ⟨x, _, rfl, fun i hi => ?_⟩
    rw [← hc i hi]
    have hx := hy (List.ne_nil_of_length_pos (by omega)) x rfl
    have e1 : (x.add i).block = x.block := by unfold Addr.add; split <;> rfl
    unfold World.cell?
    rw [e1, hb.block x.block hx]
theorem OwnG.own {e : TypeId} {w : World} {B n c : Nat} {y : Option Addr} {xs : List Value} (h : OwnG e w B (.slice y n c) xs) (hn : xs.length = n) : (∀ x, y = some x → (Value.slice y n c).ownBlock = some x.block) ∧ n ≤ c := by
  subst hn
  by_cases h0 : xs = []
  · subst h0
    refine ⟨fun x hx => ?_, Nat.zero_le _⟩
    rcases h.2 with ⟨e9, -⟩ | ⟨g, cap, cur, e9, -⟩
    · cases e9; cases hx
    · cases e9; cases hx; rfl
  · obtain ⟨g, c', e9, -, -, h1, -⟩ := h.form h0
    cases e9
    exact ⟨fun x hx => by cases hx; rfl, h1⟩
end Go.Proofs.Ytadnfiikfhdphaa
