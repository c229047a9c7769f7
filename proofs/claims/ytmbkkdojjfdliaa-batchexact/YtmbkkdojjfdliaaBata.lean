
import Derived.Test.YtmbkkdojjfdliaaBat9
namespace Go.Proofs.Ytmbkkdojjfdliaa
open Go.RowKit

/-! Marking and lengthening the lists of a family -/
theorem run_appAllG {t e : TypeId} {bytes : Nat} (EL : Elt t e bytes) (W : World) (B : Nat) (xv : Option Addr) (nv cv : Nat) (ds us : List Value) (x : Option Addr) (m c : Nat) (ty : TypeId) (h : OwnG e W B (.slice xv nv cv) ds) (hn : ds.length = nv) (hu : IsG W (.slice x m c) us) (hm : us.length = m) (h1 : ∀ u ∈ us, u.oneCell' = true) (hB : B ≤ W.heap.size) (hl : (nv + m) * bytes ≤ 140737488355328) (h63 : nv + m ≤ maxLen) :
    ∃ v' c' w', (Builtin.append_ #[t, t] ty #[.slice xv nv cv, .slice x m c]).run Try.prog W = .ok (.slice v' (nv + m) c') w' ∧ OwnG e w' B (.slice v' (nv + m) c') (ds ++ us) ∧ Below B W w' := by
  obtain ⟨i, z, hi, hz, hsz, hby, hzs⟩ := EL.info
  rcases Nat.eq_zero_or_pos m with rfl | h0
  · obtain rfl := List.eq_nil_of_length_eq_zero hm
    refine ⟨xv, cv, W, ?_, by simpa using h, Below.refl _ _⟩
    rcases h.cases with ⟨rfl, rfl, rfl⟩ | ⟨g, rfl, -, hle⟩
    · cases x <;> simp [Builtin.append_, run_underlying EL.ht, sizeOf, typeInfo, hi, Builtin.lenOf, Builtin.firstCells, loadCells, loadCellsFrom]
    · cases x <;> simp [Builtin.append_, run_underlying EL.ht, sizeOf, typeInfo, hi, Builtin.lenOf, Builtin.firstCells, loadCells, loadCellsFrom, storeCells, hle]
  · subst hn hm
    obtain ⟨b, o, rfl, hb, hc⟩ := hu.spot 0 h0
    obtain ⟨g, c', w', hr, hO, hg, hway, hlt⟩ := run_append_lies (P := Try.prog) W t ty B e i z 1 bytes EL.ht hi hz hsz hby hzs (by omega) (.slice xv ds.length cv) ds.length ds h ⟨b, o, none⟩ us.length c us (by omega) (fun j u hu => by rw [addr_add]; exact hc j u hu) h1 h0 h63 hl hB _ rfl
    exact ⟨_, c', w', hr, by unfold OwnG; rw [List.length_append]; exact hO, OwnG.below h hg hB⟩
theorem OwnG.same {e : TypeId} {w w' : World} {B : Nat} {v : Value} {xs : List Value} (h : OwnG e w B v xs) (hb : ∀ f, v.ownBlock = some f → w'.heap[f]? = w.heap[f]?) : OwnG e w' B v xs := by
  refine ⟨h.1, ?_⟩
  rcases h.2 with hn | ⟨g, cap, cur, rfl, hb9, hg, rest⟩
  · exact .inl hn
  · exact .inr ⟨g, cap, cur, rfl, hb9, by rw [hb g rfl]; exact hg, rest⟩
def mk26 (i : Nat) : Wr := (-100 - (i : Int), secZ)
def updL {β : Type} (L : Nat → β) (i : Nat) (d : β) : Nat → β := fun q => if q = i then d else L q
theorem updL_same {β : Type} (L : Nat → β) (i : Nat) (d : β) : updL L i d i = d := if_pos rfl
theorem updL_ne {β : Type} (L : Nat → β) (i q : Nat) (d : β) (h : q ≠ i) : updL L i d q = L q := if_neg h
theorem wrSt26 {w w' : World} {g o : Nat} {d : Wr} (h : (Instr.storeAt wrE.T (.pointer (some ⟨g, o, none⟩)) (.agg (wrE.enc d).toArray)).run Try.prog w = .ok () w') : (wrStore (.pointer (some ⟨g, o, none⟩)) (.agg (wrA d))).run Try.prog w = .ok .skip w' := by
  rw [wrE_arr] at h
  unfold wrStore
  rw [Sem.run_bind]
  rw [show (Instr.storeAt 29 (.pointer (some ⟨g, o, none⟩)) (.agg (wrA d))).run Try.prog w = _ from h]
  rfl
structure Mrk (w2 w : World) (B gL : Nat) (vs : List Value) (X : Nat → Nat → Nat → Prop) (nn : Nat → Nat) (i j : Nat) (L : Nat → List Wr) : Prop where
  fam : Fam w B vs X L
  len : ∀ q, q < vs.length → (L q).length = nn q
  old : ∀ q, q < i → q < vs.length → L q = List.replicate (nn q) (mk26 q)
  now : ∀ t : Nat, t < j → (L i)[t]? = some (mk26 i)
  bel : Below B w2 w
  cel : ∀ (q : Nat) u, vs[q]? = some u → w.cell? ⟨gL, q, none⟩ = some u
  out : ∀ q, q < vs.length → ∀ t, ¬ X q gL t
theorem Mrk.put {w2 w : World} {B gL : Nat} {vs : List Value} {X : Nat → Nat → Nat → Prop} {nn : Nat → Nat} {i j : Nat} {L : Nat → List Wr} (h : Mrk w2 w B gL vs X nn i j L) {v : Value} (hv : vs[i]? = some v) (hj : j < nn i) (hB : B ≤ w.heap.size) : ∃ g o c w', v = .slice (some ⟨g, o, none⟩) (nn i) c ∧ (wrStore (.pointer (some ⟨g, o + j * 65, none⟩)) (.agg (wrA (mk26 i)))).run Try.prog w = .ok .skip w' ∧ Mrk w2 w' B gL vs X nn i (j + 1) (updL L i ((L i).set j (mk26 i))) ∧ w.heap.size ≤ w'.heap.size := by
  have hil := (List.getElem?_eq_some_iff.1 hv).1
  have hln := h.len i hil
  obtain ⟨g, o, c, e1, e2, e3, e4⟩ := (h.fam.bit i v hv).put j (mk26 i) (by rw [hln]; exact hj)
  refine ⟨g, o, c, _, by rw [← hln]; exact e1, wrSt26 e2, ⟨⟨fun q u hq => ?_, fun q hq b t hx => ⟨(h.fam.dom q hq b t hx).1, Nat.lt_of_lt_of_le (h.fam.dom q hq b t hx).2 e4.size⟩, h.fam.ap⟩, fun q hq => ?_, fun q hq hql => ?_, fun t ht => ?_, ?_, fun q u hq => e4.cell (h.cel q u hq) (h.out i hil q), h.out⟩, e4.size⟩
  · by_cases e : q = i
    · subst e
      rw [hv] at hq
      cases hq
      rw [updL_same]
      exact e3
    · rw [updL_ne _ _ _ _ e]
      exact (h.fam.bit q u hq).cel e4 (h.fam.ap q i (List.getElem?_eq_some_iff.1 hq).1 hil e)
  · by_cases e : q = i
    · subst e
      rw [updL_same, List.length_set]
      exact hln
    · rw [updL_ne _ _ _ _ e]
      exact h.len q hq
  · rw [updL_ne _ _ _ _ (by omega)]
    exact h.old q hq hql
  · rw [updL_same]
    by_cases e : t = j
    · subst e
      rw [List.getElem?_set_self (by rw [hln]; exact hj)]
    · rw [List.getElem?_set_ne (fun h9 => e h9.symm)]
      exact h.now t (by omega)
  · exact h.bel.trans (e4.below (fun b t hx => (h.fam.dom i hil b t hx).1) hB)
theorem Mrk.next {w2 w : World} {B gL : Nat} {vs : List Value} {X : Nat → Nat → Nat → Prop} {nn : Nat → Nat} {i : Nat} {L : Nat → List Wr} (h : Mrk w2 w B gL vs X nn i (nn i) L) : Mrk w2 w B gL vs X nn (i + 1) 0 L := by
  refine ⟨h.fam, h.len, fun q hq hql => ?_, fun t ht => by omega, h.bel, h.cel, h.out⟩
  by_cases e : q = i
  · subst e
    have hln := h.len q hql
    refine List.ext_getElem? fun t => ?_
    by_cases ht : t < nn q
    · rw [h.now t ht, List.getElem?_replicate_of_lt ht]
    · rw [List.getElem?_eq_none (by omega), List.getElem?_eq_none (by simp; omega)]
  · exact h.old q (by omega) hql
/-- The lists of which the first are lengthened by two. -/
structure Grw (w2 w : World) (B gL : Nat) (vs us : List Value) (X : Nat → Nat → Nat → Prop) (nn : Nat → Nat) : Prop where
  fam : Fam w B vs X (fun q => List.replicate (nn q) (mk26 q))
  up : ∀ (q : Nat) u, us[q]? = some u → Bit w B u (X q) (List.replicate (nn q) (mk26 q) ++ [mk26 q, mk26 q])
  le : us.length ≤ vs.length
  bel : Below B w2 w
  cel : ∀ (q : Nat) u, vs[q]? = some u → w.cell? ⟨gL, q, none⟩ = some u
  out : ∀ q, q < vs.length → ∀ t, ¬ X q gL t
  lt : gL < w.heap.size
theorem Mrk.grw {w2 w : World} {B gL : Nat} {vs : List Value} {X : Nat → Nat → Nat → Prop} {nn : Nat → Nat} {L : Nat → List Wr} (h : Mrk w2 w B gL vs X nn vs.length 0 L) (hlt : gL < w.heap.size) : Grw w2 w B gL vs [] X nn :=
  ⟨⟨fun i v hv => by
    have hil := (List.getElem?_eq_some_iff.1 hv).1
    have := h.fam.bit i v hv
    rwa [h.old i hil hil] at this, h.fam.dom, h.fam.ap⟩, fun q u hu => by simp at hu, Nat.zero_le _, h.bel, h.cel, h.out, hlt⟩
theorem Grw.below {w2 w w' : World} {B gL : Nat} {vs us : List Value} {X : Nat → Nat → Nat → Prop} {nn : Nat → Nat} (h : Grw w2 w B gL vs us X nn) (hb : Below w.heap.size w w') (hB : B ≤ w.heap.size) : Grw w2 w' B gL vs us X nn :=
  ⟨h.fam.below hb, fun q u hu => (h.up q u hu).below hb, h.le, h.bel.trans (hb.mono hB), fun q u hu => cell_later hb (h.cel q u hu), h.out, Nat.lt_of_lt_of_le h.lt hb.size⟩
/-- What turns blocks that are none of theirs. -/
theorem Grw.keep {w2 w w' : World} {B gL : Nat} {vs us : List Value} {X : Nat → Nat → Nat → Prop} {nn : Nat → Nat} (h : Grw w2 w B gL vs us X nn) {F : List Nat} (hk : Keep F w w') (hF : ∀ f ∈ F, B ≤ f ∧ f ≠ gL ∧ ∀ q, q < vs.length → ∀ t, ¬ X q f t) (hB : B ≤ w.heap.size) : Grw w2 w' B gL vs us X nn := by
  have hX : ∀ q, q < vs.length → ∀ b t, X q b t → w'.heap[b]? = w.heap[b]? := fun q hq b t hx => hk.block b (h.fam.dom q hq b t hx).2 (fun hb => (hF b hb).2.2 q hq t hx)
  refine ⟨⟨fun i v hv => (h.fam.bit i v hv).keep (hX i (List.getElem?_eq_some_iff.1 hv).1), fun i hi b t hx => ⟨(h.fam.dom i hi b t hx).1, Nat.lt_of_lt_of_le (h.fam.dom i hi b t hx).2 hk.size⟩, h.fam.ap⟩, fun q u hu => (h.up q u hu).keep (hX q (Nat.lt_of_lt_of_le (List.getElem?_eq_some_iff.1 hu).1 h.le)), h.le, h.bel.trans (hk.below (fun f hf => (hF f hf).1) hB), fun q u hu => cell_block26 (h.cel q u hu) (hk.block gL h.lt (fun hb => (hF gL hb).2.1 rfl)), h.out, Nat.lt_of_lt_of_le h.lt hk.size⟩
theorem new26b (w : World) (x : Wr) : (w.alloc (.cells (wrA x) wrE.T)).rangeAt w.heap.size 0 (wrE.enc x) := newWr26 w x
/-- The next one is lengthened. -/
theorem Grw.grow {w2 w : World} {B gL : Nat} {vs us : List Value} {X : Nat → Nat → Nat → Prop} {nn : Nat → Nat} (h : Grw w2 w B gL vs us X nn) {i : Nat} (hi : us.length = i) {v : Value} (hv : vs[i]? = some v) (hl : (nn i + 2) * 72 ≤ 140737488355328) (hB : B ≤ w.heap.size) (ty ty' : TypeId) :
    ∃ x1 n1 c1 wb x2 c2 wd X', (Builtin.append_ #[22, 22] ty #[v, .slice (some ⟨w.heap.size, 0, none⟩) 1 1]).run Try.prog (w.alloc (.cells (wrA (mk26 i)) 29)) = .ok (.slice x1 n1 c1) wb ∧
      (Builtin.append_ #[22, 22] ty' #[.slice x1 n1 c1, .slice (some ⟨wb.heap.size, 0, none⟩) 1 1]).run Try.prog (wb.alloc (.cells (wrA (mk26 i)) 29)) = .ok (.slice x2 (nn i + 2) c2) wd ∧
      Grw w2 wd B gL vs (us ++ [.slice x2 (nn i + 2) c2]) X' nn ∧ w.heap.size ≤ wd.heap.size ∧ (∀ f, f < w.heap.size → (∀ q, q < vs.length → ∀ t, ¬ X q f t) → wd.heap[f]? = w.heap[f]? ∧ ∀ q, q < vs.length → ∀ t, ¬ X' q f t) := by
  have hil := (List.getElem?_eq_some_iff.1 hv).1
  have a1 := below_alloc w (.cells (wrA (mk26 i)) wrE.T)
  obtain ⟨R, hR⟩ : ∃ R, List.replicate (nn i) (mk26 i) = R := ⟨_, rfl⟩
  have hRl : R.length = nn i := by rw [← hR, List.length_replicate]
  have hb0 : Bit w B v (X i) R := by rw [← hR]; exact h.fam.bit i v hv
  have D0 := (Duo.start hb0).below a1
  have hsz1 : (R.length + ([] : List Wr).length + 1) * 72 ≤ 140737488355328 := Nat.le_trans (Nat.mul_le_mul_right 72 (by simp only [hRl, List.length_nil]; omega)) hl
  have hsz2 : (R.length + (([] : List Wr) ++ [mk26 i]).length + 1) * 72 ≤ 140737488355328 := Nat.le_trans (Nat.mul_le_mul_right 72 (by simp only [hRl, List.nil_append, List.length_singleton]; omega)) hl
  obtain ⟨u1, wb, r1, D1, C1⟩ := D0.app (mk26 i) ty (new26b w (mk26 i)) hsz1 (Nat.le_trans hB a1.size)
  have hs1 : w.heap.size ≤ wb.heap.size := Nat.le_trans a1.size C1.size
  have a2 := below_alloc wb (.cells (wrA (mk26 i)) wrE.T)
  obtain ⟨u2, wd, r2, D2, C2⟩ := (D1.below a2).app (mk26 i) ty' (new26b wb (mk26 i)) hsz2 (Nat.le_trans hB (Nat.le_trans hs1 a2.size))
  have hs2 : wb.heap.size ≤ wd.heap.size := Nat.le_trans a2.size C2.size
  have hA1 : (w.alloc (.cells (wrA (mk26 i)) wrE.T)).heap.size = w.heap.size + 1 := by simp
  have hA2 : (wb.alloc (.cells (wrA (mk26 i)) wrE.T)).heap.size = wb.heap.size + 1 := by simp
  obtain ⟨Z, hZ⟩ : ∃ q, newC (newC (X i) (w.alloc (.cells (wrA (mk26 i)) wrE.T)) wb) (wb.alloc (.cells (wrA (mk26 i)) wrE.T)) wd = q := ⟨_, rfl⟩
  have hZt : ∀ b t, Z b t → X i b t ∨ (w.heap.size ≤ b ∧ b < wd.heap.size) := fun b t hz => by
    rw [← hZ] at hz
    rcases hz with (h1 | h1) | h1
    · exact .inl h1
    · right; omega
    · right; omega
  rw [hZ] at D2
  obtain ⟨x1, n1, hu1⟩ := D1.1.form
  obtain ⟨x2, c2, hu2⟩ := D2.1.form
  rw [List.length_append, hRl, List.nil_append, List.length_singleton] at hu1
  rw [List.length_append, hRl, List.nil_append, List.singleton_append, List.length_cons, List.length_singleton] at hu2
  subst hu1 hu2
  have hoth : ∀ q, q < vs.length → q ≠ i → ∀ u ds, Bit w B u (X q) ds → Bit wd B u (X q) ds := fun q hq hne u ds hb => by
    have hd : ∀ b t, X q b t → b < w.heap.size := fun b t hx => (h.fam.dom q hq b t hx).2
    have b1 := (hb.below a1).cel C1 (h.fam.ap q i hq hil hne)
    exact (b1.below a2).cel C2 (fun b t hx hy => by
      rcases hy with h1 | h1
      · exact h.fam.ap q i hq hil hne b t hx h1
      · have := hd b t hx
        omega)
  have hfr : ∀ f, f < w.heap.size → (∀ t, ¬ X i f t) → wd.heap[f]? = w.heap[f]? := fun f hf hx => by
    rw [C2.block f (by omega) (fun t hy => by
      rcases hy with h1 | h1
      · exact hx t h1
      · omega), a2.block f (by omega), C1.block f (by omega) hx, a1.block f hf]
  refine ⟨x1, _, n1, wb, x2, c2, wd, updL X i Z, r1, r2, ⟨⟨fun q u hq => ?_, fun q hq b t hx => ?_, fun q r hq hr hne b t hx hy => ?_⟩, fun q u hu => ?_, by rw [List.length_append]; simp; omega, ?_, fun q u hq => cell_block26 (h.cel q u hq) (hfr gL h.lt (h.out i hil)), fun q hq t hx => ?_, by have := h.lt; omega⟩, by omega, fun f hf hx => ⟨hfr f hf (hx i hil), fun q hq t hy => ?_⟩⟩
  · by_cases e : q = i
    · subst e
      rw [hv] at hq
      cases hq
      rw [updL_same, hR]
      exact D2.2.1
    · rw [updL_ne _ _ _ _ e]
      exact hoth q (List.getElem?_eq_some_iff.1 hq).1 e u _ (h.fam.bit q u hq)
  · by_cases e : q = i
    · subst e
      rw [updL_same] at hx
      rcases hZt b t hx with h1 | h1
      · have := h.fam.dom q hil b t h1
        omega
      · omega
    · rw [updL_ne _ _ _ _ e] at hx
      have := h.fam.dom q hq b t hx
      omega
  · by_cases e : q = i
    · subst e
      rw [updL_same] at hx
      rw [updL_ne _ _ _ _ (fun h9 => hne h9.symm)] at hy
      rcases hZt b t hx with h1 | h1
      · exact h.fam.ap q r hil hr hne b t h1 hy
      · have := h.fam.dom r hr b t hy
        omega
    · rw [updL_ne _ _ _ _ e] at hx
      by_cases e' : r = i
      · subst e'
        rw [updL_same] at hy
        rcases hZt b t hy with h1 | h1
        · exact h.fam.ap q r hq hil hne b t hx h1
        · have := h.fam.dom q hq b t hx
          omega
      · rw [updL_ne _ _ _ _ e'] at hy
        exact h.fam.ap q r hq hr hne b t hx hy
  · by_cases e : q = i
    · subst e
      rw [updL_same]
      rw [List.getElem?_append_right (by omega), hi, Nat.sub_self] at hu
      simp only [List.getElem?_cons_zero, Option.some.injEq] at hu
      subst hu
      have := D2.1
      rw [hR]
      simpa using this
    · rw [updL_ne _ _ _ _ e]
      have hql := (List.getElem?_eq_some_iff.1 hu).1
      rw [List.length_append] at hql
      simp at hql
      rw [List.getElem?_append_left (by omega)] at hu
      exact hoth q (by have := h.le; omega) e u _ (h.up q u hu)
  · have b1 : Below B w wb := (a1.mono hB).trans (C1.below (fun b t hx => (h.fam.dom i hil b t hx).1) (by omega))
    have b2 : Below B wb wd := (a2.mono (by omega)).trans (C2.below (fun b t hx => by
      rcases hx with h1 | h1
      · exact (h.fam.dom i hil b t h1).1
      · omega) (by omega))
    exact h.bel.trans (b1.trans b2)
  · by_cases e : q = i
    · subst e
      rw [updL_same] at hx
      rcases hZt gL t hx with h1 | h1
      · exact h.out q hil t h1
      · have := h.lt
        omega
    · rw [updL_ne _ _ _ _ e] at hx
      exact h.out q hq t hx
  · by_cases e : q = i
    · subst e
      rw [updL_same] at hy
      rcases hZt f t hy with h1 | h1
      · exact hx q hil t h1
      · omega
    · rw [updL_ne _ _ _ _ e] at hy
      exact hx q hq t hy
end Go.Proofs.Ytmbkkdojjfdliaa
