
import Derived.Test.YtligjfofnafjeaaFor4
import Derived.Test.YtligjfofnafjeaaFou
import Derived.Maps.OwnSet
namespace Go.Proofs.Ytligjfofnafjeaa
open Go.RowKit Go.Maps

/-! A Forest's lists, and things beside them: a map, lists of slots -/
def xT (A X : Nat → Option Th) : Nat → Option Th := fun k => if k < 7 then A k else X k
theorem xT_lo (A X : Nat → Option Th) {k : Nat} (h : k < 7) : xT A X k = A k := if_pos h
theorem xT_hi (A X : Nat → Option Th) {k : Nat} (h : 7 ≤ k) : xT A X k = X k := if_neg (by omega)
theorem xT_upd {A A' X : Nat → Option Th} {q : Nat} {th : Th} (hq : q < 7) (h : ∀ k t, A' k = some t → updT A q th k = some t) : ∀ k t, xT A' X k = some t → updT (xT A X) q th k = some t := by
  intro k t hk
  by_cases h7 : k < 7
  · rw [xT_lo _ _ h7] at hk
    have := h k t hk
    unfold updT at this ⊢
    by_cases e : k = q
    · rw [if_pos e] at this ⊢; exact this
    · rw [if_neg e] at this ⊢; rw [xT_lo _ _ h7]; exact this
  · rw [xT_hi _ _ (by omega)] at hk
    rw [updT_ne _ _ _ _ (by omega), xT_hi _ _ (by omega)]; exact hk
theorem xT_updX {A X : Nat → Option Th} {q : Nat} {th : Th} (hq : 7 ≤ q) : ∀ k t, xT A (updT X q th) k = some t → updT (xT A X) q th k = some t := by
  intro k t hk
  by_cases h7 : k < 7
  · rw [xT_lo _ _ h7] at hk
    rw [updT_ne _ _ _ _ (by omega), xT_lo _ _ h7]; exact hk
  · rw [xT_hi _ _ (by omega)] at hk
    unfold updT at hk ⊢
    by_cases e : k = q
    · rw [if_pos e] at hk ⊢; exact hk
    · rw [if_neg e] at hk ⊢; rw [xT_hi _ _ (by omega)]; exact hk
structure Fy (n : Nat) (w W : World) (row : Option (Nat × Array Value)) (V : Nat → Value) (K : Nat → Bool) (P : Nat → Nat) (L : Nat → List Nat) (X : Nat → Option Th) : Prop where
  ga : Ga W w.heap.size (xT (T21 w.heap.size n row V K P L) X)
  be : Below w.heap.size w W
section
variable {n : Nat} {w W W' : World} {ro : Option (Nat × Array Value)} {V : Nat → Value} {K : Nat → Bool} {P : Nat → Nat} {L : Nat → List Nat} {X : Nat → Option Th}
theorem T21_lt {B : Nat} {k : Nat} {t : Th} (h : T21 B n ro V K P L k = some t) : k < 7 := by
  unfold T21 at h
  by_cases h0 : k = 0
  · omega
  · rw [if_neg h0] at h
    by_cases h1 : k = 1
    · omega
    · rw [if_neg h1] at h
      by_cases h6 : k < 6
      · omega
      · rw [if_neg h6] at h
        by_cases h7 : k = 6
        · omega
        · rw [if_neg h7] at h; cases h
theorem Fy.fo (h : Fy n w W ro V K P L X) : Fo n w W ro V K P L := ⟨h.ga.less fun k t hk => by rw [xT_lo _ _ (T21_lt hk)]; exact hk, h.be⟩
theorem Fo.fy (h : Fo n w W ro V K P L) : Fy n w W ro V K P L (fun _ => none) := by
  refine ⟨h.ga.less fun k t hk => ?_, h.be⟩
  by_cases h7 : k < 7
  · rw [xT_lo _ _ h7] at hk; exact hk
  · rw [xT_hi _ _ (by omega)] at hk; cases hk
theorem Fy.later (h : Fy n w W ro V K P L X) (hb : Below W.heap.size W W') : Fy n w W' ro V K P L X := ⟨h.ga.later hb, h.be.trans (hb.mono h.ga.size)⟩
theorem Fy.kept (h : Fy n w W ro V K P L X) : OwnG 4 W w.heap.size (V 0) (bF K n) := h.fo.kept
theorem Fy.par (h : Fy n w W ro V K P L X) : OwnG 33 W w.heap.size (V 1) (uF P n) := h.fo.par
theorem Fy.list (h : Fy n w W ro V K P L X) (q : Nat) (h2 : 2 ≤ q) (h6 : q < 6) : OwnG 3 W w.heap.size (V q) (iF (L q)) := h.fo.list q h2 h6
theorem Fy.row {g : Nat} {c : Array Value} (h : Fy n w W (some (g, c)) V K P L X) : RowC W g c := h.fo.row
theorem Fy.lessX {X' : Nat → Option Th} (h : Fy n w W ro V K P L X) (hs : ∀ k t, X' k = some t → X k = some t) : Fy n w W ro V K P L X' := ⟨h.ga.less fun k t hk => by
  by_cases h7 : k < 7
  · rw [xT_lo _ _ h7] at hk ⊢; exact hk
  · rw [xT_hi _ _ (by omega)] at hk ⊢; exact hs k t hk, h.be⟩
theorem Fy.newX (h : Fy n w W ro V K P L X) (q : Nat) (h7 : 7 ≤ q) (hb : Below W.heap.size W W') {t' : Th} (ha : ∃ F' R', t'.P W' F' R' ∧ (∀ p ∈ F', W.heap.size ≤ p) ∧ ∀ p ∈ R', W.heap.size ≤ p) : Fy n w W' ro V K P L (updT X q t') :=
  ⟨(h.ga.add (k := q) hb ha).less (xT_updX h7), h.be.trans (hb.mono h.ga.size)⟩
theorem Fy.getX (h : Fy n w W ro V K P L X) {q : Nat} (h7 : 7 ≤ q) {t : Th} (hq : X q = some t) : ∃ F R, t.P W F R := h.ga.get (by rw [xT_hi _ _ h7]; exact hq)
theorem Fy.actX (h : Fy n w W ro V K P L X) {q : Nat} (h7 : 7 ≤ q) {t t' : Th} (hq : X q = some t) (ha : ∀ F R, t.P W F R → (∀ p ∈ F, w.heap.size ≤ p) → ∃ F' R', t'.P W' F' R' ∧ (∀ p ∈ F', p ∈ F ∨ W.heap.size ≤ p) ∧ (∀ p ∈ R', p ∈ R ∨ W.heap.size ≤ p) ∧ Keep F W W') : Fy n w W' ro V K P L (updT X q t') := by
  have h9 := h.ga.act (k := q) (by rw [xT_hi _ _ h7]; exact hq) ha
  exact ⟨h9.1.less (xT_updX h7), h.be.trans ((h9.2 [] (fun a ha => by cases ha)).below h.ga.size)⟩
/-- kept[i] = b -/
theorem Fy.setK (h : Fy n w W ro V K P L X) (i : Nat) (hi : i < n) (b : Bool) : ∃ g c, V 0 = .slice (some ⟨g, 0, none⟩) n c ∧ W.cell? ⟨g, i, none⟩ = some (.bool (K i)) ∧ W.frozen? ⟨g, i, none⟩ = false ∧ Fy n w (W.setCell ⟨g, i, none⟩ (.bool b)) ro V (fun j => if j = i then b else K j) P L X := by
  have hO := h.kept
  obtain ⟨g, c, he, hg, -⟩ := hO.form (fun e => by have := bF_len K n; rw [e] at this; simp at this; omega)
  rw [bF_len] at he
  have hO' := hO
  rw [he] at hO'
  refine ⟨g, c, he, hO'.cell i _ (bF_get K n i hi), hO'.frozen i, ?_⟩
  obtain ⟨hO2, hg2⟩ := hO'.put i (.bool b)
  rw [bF_set] at hO2
  have hk0 : xT (T21 w.heap.size n ro V K P L) X 0 = some (thG 4 w.heap.size (.slice (some ⟨g, 0, none⟩) n c) (bF K n)) := by rw [← he]; rfl
  have h9 := (h.ga.putG hk0 (Keep.of_grown hg2 (fun q hq => by cases hq; simp [Value.ownBlock])) hO2 (fun q hq => .inl hq)).1
  rw [← he] at h9
  exact ⟨h9.less (xT_upd (by omega) T21_k), h.be.trans (hO'.below (by exact hg2) h.ga.size)⟩
theorem Fy.setP (h : Fy n w W ro V K P L X) (i : Nat) (hi : i < n) (v : Nat) : ∃ g c, V 1 = .slice (some ⟨g, 0, none⟩) n c ∧ W.cell? ⟨g, i, none⟩ = some (.int .u32 (P i : Int)) ∧ W.frozen? ⟨g, i, none⟩ = false ∧ Fy n w (W.setCell ⟨g, i, none⟩ (.int .u32 (v : Int))) ro V K (fun j => if j = i then v else P j) L X := by
  have hO := h.par
  obtain ⟨g, c, he, hg, -⟩ := hO.form (fun e => by have := uF_len P n; rw [e] at this; simp at this; omega)
  rw [uF_len] at he
  have hO' := hO
  rw [he] at hO'
  refine ⟨g, c, he, hO'.cell i _ (uF_get P n i hi), hO'.frozen i, ?_⟩
  obtain ⟨hO2, hg2⟩ := hO'.put i (.int .u32 (v : Int))
  rw [uF_set] at hO2
  have hk0 : xT (T21 w.heap.size n ro V K P L) X 1 = some (thG 33 w.heap.size (.slice (some ⟨g, 0, none⟩) n c) (uF P n)) := by rw [← he]; rfl
  have h9 := (h.ga.putG hk0 (Keep.of_grown hg2 (fun q hq => by cases hq; simp [Value.ownBlock])) hO2 (fun q hq => .inl hq)).1
  rw [← he] at h9
  exact ⟨h9.less (xT_upd (by omega) T21_p), h.be.trans (hO'.below (by exact hg2) h.ga.size)⟩
/-- f.q = append(f.q, i) -/
theorem Fy.app {g : Nat} (h : Fy n w W (some (g, foA V)) V K P L X) (q : Nat) (h2 : 2 ≤ q) (h6 : q < 6) (i : Nat) (ty : TypeId) (hl : (L q).length ≤ 4398046511104) :
    W.cell? ⟨g, q, none⟩ = some (V q) ∧ ∃ g' m' c' w', ∃ v', v' = Value.slice (some ⟨g', 0, none⟩) m' c' ∧ (Builtin.append_ #[26, 26] ty #[V q, .slice (some ⟨W.heap.size, 0, none⟩) 1 1]).run Try.prog (W.alloc (.cells #[Value.int .i64 (i : Int)] 3)) = .ok v' w' ∧
      w'.cell? ⟨g, q, none⟩ = some (V q) ∧ w'.frozen? ⟨g, q, none⟩ = false ∧ Fy n w (w'.setCell ⟨g, q, none⟩ v') (some (g, foA (updV V q v'))) (updV V q v') K P (updL L q (L q ++ [i])) X := by
  refine ⟨by rw [h.row.cell, foA_get V q h6], ?_⟩
  have bC := below_alloc W (.cells #[Value.int .i64 (i : Int)] 3)
  have h1 := h.later bC
  have hcl : (W.alloc (.cells #[Value.int .i64 (i : Int)] 3)).cell? ⟨W.heap.size, 0, none⟩ = some (.int .i64 (i : Int)) := cell_of_row _ _ 0 _ _ _ (heap_alloc_last _ _)
  have hO := h1.list q h2 h6
  obtain ⟨xq, cq, hq⟩ := own_slice hO
  rw [iF_len] at hq
  obtain ⟨g', c', w', hr, hO2, hKp, hw⟩ := apLies eltI21 (W.alloc (.cells #[Value.int .i64 (i : Int)] 3)) w.heap.size xq (L q).length cq (iF (L q)) [.int .i64 (i : Int)] W.heap.size 1 ty (by rw [← hq]; exact hO) (iF_len _) rfl (fun j u hu => by
    rcases j with _ | j
    · simp at hu; subst hu; exact hcl
    · simp at hu) (fun u hu => by simp at hu; subst hu; rfl) (by omega) h1.ga.size (by omega) (by unfold maxLen; omega)
  have e9 : iF (L q) ++ [.int .i64 (i : Int)] = iF (L q ++ [i]) := by rw [iF_app]; rfl
  rw [e9] at hO2
  rw [← hq] at hr hKp hw
  obtain ⟨v', hv'⟩ : ∃ z9, Value.slice (some ⟨g', 0, none⟩) ((L q).length + 1) c' = z9 := ⟨_, rfl⟩
  have hv : ∀ p, v'.ownBlock = some p → (V q).ownBlock = some p ∨ (W.alloc (.cells #[Value.int .i64 (i : Int)] 3)).heap.size ≤ p := fun p hp => by
    rw [← hv'] at hp
    cases hp
    exact hw
  rw [hv'] at hr hO2
  have hGA := h1.ga.putG (k := q) (by rw [xT_lo _ _ (by omega)]; exact T21_int h2 h6) hKp hO2 hv
  have hG := hGA.1
  have hB2 := (hGA.2 [] (fun a ha => by cases ha)).below h1.ga.size
  have h3 : Fy n w w' (some (g, foA V)) (updV V q v') K P (updL L q (L q ++ [i])) X := ⟨hG.less (xT_upd (by omega) (T21_q h2 h6)), h1.be.trans hB2⟩
  refine ⟨g', _, c', w', v', hv'.symm, hr, by rw [h3.row.cell, foA_get V q h6], h3.row.frozen q, ?_⟩
  have hR := h3.row.set q v'
  rw [foA_set V q v' h6] at hR
  have kc : Keep [g] w' (w'.setCell ⟨g, q, none⟩ v') := ⟨rfl, rfl, rfl, by simp [World.setCell], fun k _ hn => heap_setCell_ne w' g k q v' (fun e => hn (by simp [e]))⟩
  have hG2 := h3.ga.putRow (k := 6) (c := foA V) rfl kc hR
  exact ⟨hG2.1.less (xT_upd (by omega) T21_row), h3.be.trans ((hG2.2 [] (fun a ha => by cases ha)).below h3.ga.size)⟩
end
/-! Lists of slots, -1 among them -/
def zF (u : Nat → Int) (n : Nat) : List Value := (List.range n).map fun i => .int .i64 (u i)
theorem zF_len (u : Nat → Int) (n : Nat) : (zF u n).length = n := by simp [zF]
theorem zF_get (u : Nat → Int) (n i : Nat) (h : i < n) : (zF u n)[i]? = some (.int .i64 (u i)) := by simp [zF, h]
theorem zF_congr {f g : Nat → Int} {n : Nat} (h : ∀ i, i < n → f i = g i) : zF f n = zF g n := by
  unfold zF; exact List.map_congr_left fun i hi => by rw [h i (by simpa using hi)]
theorem zF_set (f : Nat → Int) (n i : Nat) (v : Int) : (zF f n).set i (.int .i64 v) = zF (fun j => if j = i then v else f j) n := by
  apply List.ext_getElem?
  intro j
  rw [List.getElem?_set]
  by_cases hj : j < n
  · rw [zF_get (fun j => if j = i then v else f j) n j hj, zF_len]
    by_cases e : j = i
    · rw [if_pos e, if_pos e.symm, if_pos (by omega)]
    · rw [if_neg e, if_neg (fun h => e h.symm), zF_get _ n j hj]
  · rw [List.getElem?_eq_none (by rw [zF_len]; omega), List.getElem?_eq_none (by rw [zF_len]; omega), zF_len]
    by_cases e : i = j
    · rw [if_pos e, if_neg (by omega)]
    · rw [if_neg e]
/-! make([]int, n) -/
def zerosI (n : Nat) : List Value := List.replicate n (.int .i64 0)
def mkZi (x y : Value) : Sem Next := do pure (.value (← Instr.makeSlice 26 x y))
@[go_sem ↓] theorem execOp_mkZi (ρ : Operand → Value) (dst : Option Tmp) (ty : TypeId) (pos : String) (after : Array Edge) (guard : Option (Nat × Bool)) (x y : Operand) : execOp ρ { dst, op := .makeSlice 26 x y, type := ty, pos, after, guard } = mkZi (ρ x) (ρ y) := rfl
theorem info_i64I : (Try.prog.info? 3).map (fun i => (i.zero, i.size, i.bytes)) = some (some (.int .i64 0), 1, 8) := by kernel_rfl
theorem made_i64I (n : Nat) : madeCells #[Value.int .i64 0] n = (zerosI n).toArray := by
  apply Array.ext_getElem?
  intro i
  unfold zerosI
  by_cases hi : i < n
  · simp [madeCells, hi, Nat.mod_one]
  · rw [Array.getElem?_eq_none (by rw [size_madeCells]; omega), Array.getElem?_eq_none (by simp; omega)]
@[go_sem] theorem run_mkZi (w : World) (n : Int) (h0 : 0 ≤ n) (h : n ≤ 35184372088832) : (mkZi (.int .i64 n) (.int .i64 n)).run Try.prog w =
    .ok (.value (.slice (some ⟨w.heap.size, 0, none⟩) n.toNat n.toNat)) (w.alloc (.cells (zerosI n.toNat).toArray 3)) := by
  obtain ⟨i, hi, hzz⟩ := Option.map_eq_some_iff.1 info_i64I
  simp only [Prod.mk.injEq] at hzz
  simp only [mkZi, Sem.run_bind]
  rw [run_make (P := Try.prog) w 26 3 i _ Try.underlying26 hi hzz.1 .i64 .i64 n n h0 (Int.le_refl _) (by rw [hzz.2.2]; omega) (by omega)]
  rw [hzz.2.1, Nat.mul_one, show (Value.int .i64 0).cells = #[Value.int .i64 0] from rfl, made_i64I]
  rfl
theorem zF_zero (n : Nat) : zF (fun _ => 0) n = zerosI n := by
  unfold zF zerosI
  apply List.ext_getElem?
  intro i
  by_cases hi : i < n <;> simp [hi]
theorem ownI_new (n : Nat) (x : World) (h41 : n ≤ 4398046511104) : OwnG 3 (x.alloc (.cells (zerosI n).toArray 3)) x.heap.size (.slice (some ⟨x.heap.size, 0, none⟩) n n) (zF (fun _ => 0) n) := by
  have := OwnG.lit 3 x (zerosI n) (by unfold zerosI maxLen; rw [List.length_replicate]; omega)
  rw [show (zerosI n).length = n by unfold zerosI; rw [List.length_replicate]] at this
  rw [zF_zero]; exact this
/-! A list of slots beside the Forest -/
section
variable {n : Nat} {w W W' : World} {ro : Option (Nat × Array Value)} {V : Nat → Value} {K : Nat → Bool} {P : Nat → Nat} {L : Nat → List Nat} {X : Nat → Option Th}
theorem Fy.isGX (h : Fy n w W ro V K P L X) {q : Nat} (h7 : 7 ≤ q) {e : TypeId} {v : Value} {xs : List Value} (hq : X q = some (thG e w.heap.size v xs)) : OwnG e W w.heap.size v xs := by
  obtain ⟨F, R, h1, _⟩ := h.getX h7 hq
  exact h1
theorem Fy.newG (h : Fy n w W ro V K P L X) (q : Nat) (h7 : 7 ≤ q) (hb : Below W.heap.size W W') {e : TypeId} {v : Value} {xs : List Value} (hO : OwnG e W' W.heap.size v xs) : Fy n w W' ro V K P L (updT X q (thG e w.heap.size v xs)) :=
  h.newX q h7 hb ⟨_, _, ⟨hO.le h.ga.size, rfl, rfl⟩, fun p hp => (OwnG.lt hO p (by simpa using hp)).1, fun p hp => (OwnG.lt hO p (by simpa using hp)).1⟩
/-- up[i] = v -/
theorem Fy.setU (h : Fy n w W ro V K P L X) {q : Nat} (h7 : 7 ≤ q) {v : Value} {u : Nat → Int} {m : Nat} (hq : X q = some (thG 3 w.heap.size v (zF u m))) (i : Nat) (hi : i < m) (z : Int) : ∃ g c, v = .slice (some ⟨g, 0, none⟩) m c ∧ W.cell? ⟨g, i, none⟩ = some (.int .i64 (u i)) ∧ W.frozen? ⟨g, i, none⟩ = false ∧ Fy n w (W.setCell ⟨g, i, none⟩ (.int .i64 z)) ro V K P L (updT X q (thG 3 w.heap.size v (zF (fun j => if j = i then z else u j) m))) := by
  have hO := h.isGX h7 hq
  obtain ⟨g, c, he, hg, -⟩ := hO.form (fun e => by have := zF_len u m; rw [e] at this; simp at this; omega)
  rw [zF_len] at he
  subst he
  refine ⟨g, c, rfl, hO.cell i _ (zF_get u m i hi), hO.frozen i, ?_⟩
  obtain ⟨hO2, hg2⟩ := hO.put i (.int .i64 z)
  rw [zF_set] at hO2
  refine h.actX h7 hq fun F R hP _ => ?_
  obtain ⟨_, rfl, rfl⟩ := hP
  exact ⟨_, _, ⟨hO2, rfl, rfl⟩, fun p hp => .inl hp, fun p hp => .inl hp, Keep.of_grown hg2 (fun p hp => by cases hp; simp [Value.ownBlock])⟩
end
/-! The map of ids -/
set_option maxRecDepth 100000 in
theorem ownsMap_keep {D : DataW Unit} {F : List Nat} {w w' : World} {b m : Nat} (h : w.ownsMap Try.prog 33 (plainElem Try.prog 3) b m D) (hK : Keep F w w') (hq : b ∉ F) : w'.ownsMap Try.prog 33 (plainElem Try.prog 3) b m D := by
  have hlt := h.lt
  obtain ⟨es, clock, hb, F9, hs, hD⟩ := h
  exact ⟨es, clock, (hK.block b hlt hq).trans hb, F9, hs, hD⟩
def thM (b m : Nat) (D : DataW Unit) : Th where
  P w F R := w.ownsMap Try.prog 33 (plainElem Try.prog 3) b m D ∧ F = [b] ∧ R = [b]
  keeps := fun ⟨h1, h2, h3⟩ hK hd => ⟨ownsMap_keep h1 hK (hd b (by rw [h3]; simp)), h2, h3⟩
  sub := fun ⟨_, h2, h3⟩ q hq => by rw [h3, ← h2]; exact hq
  lt := fun ⟨h1, _, h3⟩ q hq => by
    rw [h3, List.mem_singleton] at hq
    subst hq
    exact h1.lt
section
variable {n : Nat} {w W W' : World} {ro : Option (Nat × Array Value)} {V : Nat → Value} {K : Nat → Bool} {P : Nat → Nat} {L : Nat → List Nat} {X : Nat → Option Th}
set_option maxRecDepth 100000 in
theorem Fy.isM (h : Fy n w W ro V K P L X) {q : Nat} (h7 : 7 ≤ q) {b m : Nat} {D : DataW Unit} (hq : X q = some (thM b m D)) : W.ownsMap Try.prog 33 (plainElem Try.prog 3) b m D := by
  obtain ⟨F, R, h1, _⟩ := h.getX h7 hq
  exact h1
theorem Fy.newM (h : Fy n w W ro V K P L X) (q : Nat) (h7 : 7 ≤ q) : Fy n w (W.alloc (.map #[] 0)) ro V K P L (updT X q (thM W.heap.size 0 (.map []))) :=
  h.newX q h7 (below_alloc W _) ⟨_, _, ⟨World.ownsMap_made W _ _ _, rfl, rfl⟩, fun p hp => by rw [List.mem_singleton] at hp; omega, fun p hp => by rw [List.mem_singleton] at hp; omega⟩
set_option maxRecDepth 100000 in
theorem Fy.putM (h : Fy n w W ro V K P L X) {q : Nat} (h7 : 7 ≤ q) {b m : Nat} {D D' : DataW Unit} (hq : X q = some (thM b m D)) (hO : W'.ownsMap Try.prog 33 (plainElem Try.prog 3) b (m + 1) D') (hg : W.grownBy W' (some b)) : Fy n w W' ro V K P L (updT X q (thM b (m + 1) D')) := by
  refine h.actX h7 hq fun F R hP _ => ?_
  obtain ⟨_, rfl, rfl⟩ := hP
  exact ⟨_, _, ⟨hO, rfl, rfl⟩, fun p hp => .inl hp, fun p hp => .inl hp, Keep.of_grown hg (fun p hp => by cases hp; simp)⟩
end
theorem key_int (x : Int) : WideAt.IsKeyLit (.int .u32 x) := trivial
/-- What the map holds: the slots of the first i that are kept, by their ids. -/
structure MapIs (F : Fr) (i : Nat) (D : DataW Unit) : Prop where
  isM : IsMap D
  has : ∀ x : Nat, Maps.has D (.int .u32 (x : Int)) = true → ∃ k, k < i ∧ F.kp k = true ∧ F.id k = x ∧ D.atKey (.int .u32 (x : Int)) (.lit (.int .i64 0)) = .lit (.int .i64 (k : Int))
  of : ∀ k, k < i → F.kp k = true → Maps.has D (.int .u32 (F.id k : Int)) = true
theorem MapIs.start (F : Fr) : MapIs F 0 (.map []) := ⟨isMap_empty, fun x h => by simp [Maps.has] at h, fun k hk => absurd hk (Nat.not_lt_zero _)⟩
set_option maxRecDepth 100000 in
theorem MapIs.no {F : Fr} {i : Nat} {D : DataW Unit} (h : MapIs F i D) (hk : F.kp i = false) : MapIs F (i + 1) D := by
  refine ⟨h.isM, fun x hx => ?_, fun k hk' hkp => ?_⟩
  · obtain ⟨k, h1, h2⟩ := h.has x hx
    exact ⟨k, by omega, h2⟩
  · by_cases e : k = i
    · subst e; rw [hk] at hkp; cases hkp
    · exact h.of k (by omega) hkp
set_option maxRecDepth 100000 in
theorem MapIs.yes {F : Fr} {i : Nat} {D : DataW Unit} (h : MapIs F i D) (hk : F.kp i = true) : MapIs F (i + 1) (D.put (.int .u32 (F.id i : Int)) (.lit (.int .i64 (i : Int)))) := by
  refine ⟨h.isM.put _ _, fun x hx => ?_, fun k hk' hkp => ?_⟩
  · by_cases e : x = F.id i
    · subst e
      exact ⟨i, by omega, hk, rfl, atKey_put_same h.isM (key_int _) _ _⟩
    · have hne : (Lit.int .u32 (x : Int)) ≠ .int .u32 (F.id i : Int) := fun e9 => by have := (Lit.int.inj e9).2; omega
      rw [has_put_other hne] at hx
      obtain ⟨k, h1, h2, h3, h4⟩ := h.has x hx
      exact ⟨k, by omega, h2, h3, by rw [atKey_put_other hne]; exact h4⟩
  · by_cases e : F.id k = F.id i
    · rw [e]; exact has_put_same h.isM (key_int _) _
    · have hne : (Lit.int .u32 (F.id k : Int)) ≠ .int .u32 (F.id i : Int) := fun e9 => by have := (Lit.int.inj e9).2; omega
      rw [has_put_other hne]
      by_cases e2 : k = i
      · subst e2; exact absurd rfl e
      · exact h.of k (by omega) hkp
set_option maxRecDepth 100000 in
/-- Is the id there: does a lower one have it? -/
theorem MapIs.low {F : Fr} {i : Nat} {D : DataW Unit} (h : MapIs F i D) : Maps.has D (.int .u32 (F.id i : Int)) = F.lower i := by
  cases hl : F.lower i
  · cases hh : Maps.has D (.int .u32 (F.id i : Int))
    · rfl
    · obtain ⟨k, h1, h2, h3, -⟩ := h.has _ hh
      rw [Fr.lower_iff.2 ⟨k, h1, Fr.kp_cd h2, h3⟩] at hl; cases hl
  · obtain ⟨k, k1, k2, k3⟩ := Fr.lower_iff.1 hl
    obtain ⟨j, j1, j2, j3⟩ := Fr.kp_first k k2
    have := h.of j (by omega) j2
    rw [j3, k3] at this; exact this
set_option maxRecDepth 100000 in
/-- Behind all slots: is it a kept one's id, and whose? -/
theorem MapIs.at_ {F : Fr} {D : DataW Unit} (h : MapIs F F.n D) (x : Nat) : (Maps.has D (.int .u32 (x : Int)) = false ∧ F.at_ x = -1) ∨ ∃ k : Nat, Maps.has D (.int .u32 (x : Int)) = true ∧ F.at_ x = (k : Int) ∧ k < F.n ∧ D.atKey (.int .u32 (x : Int)) (.lit (.int .i64 0)) = .lit (.int .i64 (k : Int)) := by
  cases hh : Maps.has D (.int .u32 (x : Int))
  · left
    refine ⟨rfl, ?_⟩
    rcases Fr.at_spec (F := F) x with ⟨h1, -⟩ | ⟨i, h1, h2, h3, h4⟩
    · exact h1
    · have := h.of i h2 h3
      rw [h4, hh] at this; cases this
  · right
    obtain ⟨k, h1, h2, h3, h4⟩ := h.has x hh
    refine ⟨k, rfl, ?_, h1, h4⟩
    rw [← h3]; exact Fr.at_kp h1 h2
end Go.Proofs.Ytligjfofnafjeaa
