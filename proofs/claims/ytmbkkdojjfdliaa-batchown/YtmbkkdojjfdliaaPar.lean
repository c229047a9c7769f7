
import Derived.Test.YtmbkkdojjfdliaaKfr
import Derived.Test.YtmbkkdojjfdliaaApp
import Derived.Deep.AppendSrc
namespace Go.Proofs.Ytmbkkdojjfdliaa
open Go.RowKit

/-! Parts of rows: lists that lie anywhere in a row, each with the room behind it its own -/
structure Pt where
  g : Nat
  o : Nat
  n : Nat
  c : Nat
def Pt.v (p : Pt) : Value := .slice (some ⟨p.g, p.o, none⟩) p.n p.c
/-- The cells of a part: those of its room. -/
def Pt.has (k : Nat) (p : Pt) (b t : Nat) : Prop := b = p.g ∧ p.o ≤ t ∧ t < p.o + p.c * k
/-- Nothing has turned but the cells of X; what they lie in stays a row as long as it was. -/
structure Cel (X : Nat → Nat → Prop) (w w' : World) : Prop where
  os : w'.os = w.os
  tape : w'.tape = w.tape
  output : w'.output = w.output
  size : w.heap.size ≤ w'.heap.size
  row : ∀ (b : Nat) (cur : Array Value) (T : TypeId) (fr : Nat × Nat), w.heap[b]? = some (.cells cur T fr) → ∃ cur', w'.heap[b]? = some (.cells cur' T fr) ∧ cur'.size = cur.size ∧ ∀ t : Nat, ¬ X b t → cur'[t]? = cur[t]?
  block : ∀ b : Nat, b < w.heap.size → (∀ t, ¬ X b t) → w'.heap[b]? = w.heap[b]?
theorem Cel.of_below {X : Nat → Nat → Prop} {w w' : World} (h : Below w.heap.size w w') : Cel X w w' :=
  ⟨h.os, h.tape, h.output, h.size, fun b cur T fr hb => ⟨cur, by rw [h.block b (Array.getElem?_eq_some_iff.1 hb).1]; exact hb, rfl, fun _ _ => rfl⟩, fun b hb _ => h.block b hb⟩
theorem Cel.refl (X : Nat → Nat → Prop) (w : World) : Cel X w w := Cel.of_below (Below.refl _ _)
theorem Cel.trans {X : Nat → Nat → Prop} {w w1 w2 : World} (h : Cel X w w1) (k : Cel X w1 w2) : Cel X w w2 :=
  ⟨k.os.trans h.os, k.tape.trans h.tape, k.output.trans h.output, Nat.le_trans h.size k.size, fun b cur T fr hb => by
    obtain ⟨c1, h1, h2, h3⟩ := h.row b cur T fr hb
    obtain ⟨c2, k1, k2, k3⟩ := k.row b c1 T fr h1
    exact ⟨c2, k1, k2.trans h2, fun t ht => (k3 t ht).trans (h3 t ht)⟩, fun b hb hx => (k.block b (Nat.lt_of_lt_of_le hb h.size) hx).trans (h.block b hb hx)⟩
/-- What is new may turn, too. -/
theorem Cel.mono {X Y : Nat → Nat → Prop} {w w' : World} (h : Cel X w w') (hxy : ∀ b t, X b t → Y b t ∨ w.heap.size ≤ b) : Cel Y w w' :=
  ⟨h.os, h.tape, h.output, h.size, fun b cur T fr hb => by
    obtain ⟨c1, h1, h2, h3⟩ := h.row b cur T fr hb
    have hl := (Array.getElem?_eq_some_iff.1 hb).1
    exact ⟨c1, h1, h2, fun t ht => h3 t (fun hx => (hxy b t hx).elim ht (fun h9 => by omega))⟩, fun b hb hy => h.block b hb (fun t hx => (hxy b t hx).elim (hy t) (fun h9 => by omega))⟩
theorem Cel.below {X : Nat → Nat → Prop} {w w' : World} {B : Nat} (h : Cel X w w') (hX : ∀ b t, X b t → B ≤ b) (hB : B ≤ w.heap.size) : Below B w w' :=
  ⟨h.os, h.tape, h.output, h.size, fun k hk => h.block k (by omega) (fun t hx => by have := hX k t hx; omega)⟩
theorem Cel.cell {X : Nat → Nat → Prop} {w w' : World} (h : Cel X w w') {b t : Nat} {v : Value} (hc : w.cell? ⟨b, t, none⟩ = some v) (hx : ¬ X b t) : w'.cell? ⟨b, t, none⟩ = some v := by
  unfold World.cell? at hc ⊢
  cases hb : w.heap[b]? with
  | none => simp [hb] at hc
  | some o =>
    cases o with
    | cells cur T fr =>
      obtain ⟨c1, h1, -, h3⟩ := h.row b cur T fr hb
      simp only [hb] at hc
      simp only [h1]
      first
      | rw [h3 t hx]; exact hc
      | (simp at hc ⊢; rw [h3 t hx]; exact hc)
    | _ => simp [hb] at hc
theorem Cel.range {X : Nat → Nat → Prop} {w w' : World} (h : Cel X w w') {b o : Nat} {cs : List Value} (hr : w.rangeAt b o cs) (hx : ∀ j, j < cs.length → ¬ X b (o + j)) : w'.rangeAt b o cs := fun j v hv =>
  h.cell (hr j v hv) (hx j (List.getElem?_eq_some_iff.1 hv).1)
theorem Cel.setC (w : World) (b o : Nat) (vs : List Value) (cur : Array Value) (T : TypeId) (fr : Nat × Nat) (hb : w.heap[b]? = some (.cells cur T fr)) : Cel (fun q t => q = b ∧ o ≤ t ∧ t < o + vs.length) w (w.setCells b o vs) := by
  obtain ⟨h1, h2, h3, h4, h5⟩ := setC_frame b vs o w
  have hh := heap_setC b vs o w cur T fr hb
  refine ⟨h2, h3, h4, by omega, fun q cu T2 fr2 hq => ?_, fun q hq hx => ?_⟩
  · by_cases e : q = b
    · subst e
      rw [hb] at hq
      cases hq
      refine ⟨_, hh, by simp, fun t ht => ?_⟩
      by_cases htl : t < cur.size
      · rw [setM_get vs o cur t htl, if_neg (fun h9 => ht ⟨rfl, h9⟩)]
      · rw [Array.getElem?_eq_none (by simp; omega), Array.getElem?_eq_none (by omega)]
    · exact ⟨cu, by rw [h5 q e]; exact hq, rfl, fun _ _ => rfl⟩
  · by_cases e : q = b
    · subst e
      have : vs = [] := by
        cases vs with
        | nil => rfl
        | cons v r => exact absurd ⟨rfl, Nat.le_refl _, by simp⟩ (hx o)
      subst this
      rfl
    · exact h5 q e
variable {α : Type} {E : EK α}
structure PtOk (E : EK α) (w : World) (B : Nat) (p : Pt) : Prop where
  ge : B ≤ p.g
  le : p.n ≤ p.c
  mx : p.c ≤ maxLen
  row : ∃ cur, w.heap[p.g]? = some (.cells cur E.T (0, 0)) ∧ p.o + p.c * E.k ≤ cur.size
theorem PtOk.cel {X : Nat → Nat → Prop} {w w' : World} {B : Nat} {p : Pt} (h : PtOk E w B p) (hc : Cel X w w') : PtOk E w' B p := by
  obtain ⟨cur, h1, h2⟩ := h.row
  obtain ⟨c1, k1, k2, -⟩ := hc.row _ _ _ _ h1
  exact ⟨h.ge, h.le, h.mx, c1, k1, by omega⟩
theorem PtOk.lt {w : World} {B : Nat} {p : Pt} (h : PtOk E w B p) : p.g < w.heap.size := by
  obtain ⟨cur, h1, -⟩ := h.row
  exact (Array.getElem?_eq_some_iff.1 h1).1
theorem PtOk.there {w : World} {B : Nat} {p : Pt} (h : PtOk E w B p) (j m : Nat) (hj : j + m ≤ p.c * E.k) : w.there p.g (p.o + j) m := by
  obtain ⟨cur, h1, h2⟩ := h.row
  intro i hi
  have hic : p.o + j + i < cur.size := by omega
  refine ⟨?_, by simp [World.frozen?, h1]⟩
  simp [World.cell?, h1, hic]
def PtIs (E : EK α) (w : World) (p : Pt) (ds : List α) : Prop := ds.length = p.n ∧ ∀ (j : Nat) (u : Value), (flK E ds)[j]? = some u → w.cell? ⟨p.g, p.o + j, none⟩ = some u
theorem PtIs.isK (O : E.Ok) {w : World} {B : Nat} {p : Pt} {ds : List α} (h : PtIs E w p ds) (ho : PtOk E w B p) : IsK E w p.v ds :=
  ⟨_, p.c, by rw [h.1]; rfl, by rw [h.1]; exact ho.le, fun i d hi => ⟨p.g, p.o, rfl, ho.lt, fun j u hu => by
    have hj : j < E.k := by have := (List.getElem?_eq_some_iff.1 hu).1; rwa [O.len] at this
    have := h.2 (i * E.k + j) u (by rw [flK_get O ds i d hi j hj]; exact hu)
    rw [Nat.add_assoc]
    exact this⟩⟩
theorem PtIs.cel {X : Nat → Nat → Prop} (O : E.Ok) {w w' : World} {p : Pt} {ds : List α} (h : PtIs E w p ds) (hc : Cel X w w') (hx : ∀ j, j < p.n * E.k → ¬ X p.g (p.o + j)) : PtIs E w' p ds :=
  ⟨h.1, fun j u hu => hc.cell (h.2 j u hu) (hx j (by have := (List.getElem?_eq_some_iff.1 hu).1; rwa [flK_len O, h.1] at this))⟩
/-- An element is stored. -/
theorem PtOk.store (O : E.Ok) {w : World} {B : Nat} {p : Pt} (h : PtOk E w B p) (j : Nat) (d : α) (hj : j < p.c) : (Instr.storeAt E.T (.pointer (some ⟨p.g, p.o + j * E.k, none⟩)) (.agg (E.enc d).toArray)).run Try.prog w = .ok () (w.setCells p.g (p.o + j * E.k) (E.enc d)) := by
  have ht := h.there (j * E.k) E.k (mul_fit hj)
  obtain ⟨i, hi, hzz⟩ := Option.map_eq_some_iff.1 O.info
  simp only [Prod.mk.injEq] at hzz
  have := run_storeAt_mid (P := Try.prog) w p.g (p.o + j * E.k) E.T (E.enc d).toArray (by rw [List.size_toArray, O.len]; exact ht) (by rw [hi, List.size_toArray, O.len]; simp [hzz.2.1]) (all_oneCell_toArray (O.one d))
  rwa [List.toList_toArray] at this
theorem PtOk.stored (O : E.Ok) {w : World} {B : Nat} {p : Pt} (h : PtOk E w B p) (j : Nat) (d : α) (hj : j < p.c) : Cel (p.has E.k) w (w.setCells p.g (p.o + j * E.k) (E.enc d)) ∧ ∀ (i : Nat) (u : Value), (E.enc d)[i]? = some u → (w.setCells p.g (p.o + j * E.k) (E.enc d)).cell? ⟨p.g, p.o + j * E.k + i, none⟩ = some u := by
  obtain ⟨cur, h1, h2⟩ := h.row
  have hl := O.len d
  have hf := mul_fit (k := E.k) hj
  constructor
  · exact (Cel.setC w p.g (p.o + j * E.k) (E.enc d) cur E.T (0, 0) h1).mono (fun b t ⟨e1, e2, e3⟩ => .inl ⟨e1, by omega, by omega⟩)
  · intro i u hu
    have hi := (List.getElem?_eq_some_iff.1 hu).1
    have hh := heap_setC p.g (E.enc d) (p.o + j * E.k) w cur E.T (0, 0) h1
    rw [cell_of_row _ _ _ _ _ _ hh, setM_get _ _ _ _ (by omega), if_pos (by omega), Nat.add_sub_cancel_left]
    exact hu
/-- append(v, d) where there is no room: new memory. -/
theorem run_growP (O : E.Ok) (w : World) (B y : Nat) (x : Option Addr) (n c : Nat) (ds : List α) (d : α) (ty : TypeId) (hn : ds.length = n) (hnc : n ≤ c) (hx : x = none → n = 0) (hc : ∀ a, x = some a → ∀ (j : Nat) (u : Value), (flK E ds)[j]? = some u → w.cell? (a.add j) = some u) (hy : w.rangeAt y 0 (E.enc d)) (hroom : ¬ n + 1 ≤ c) (hl : (n + 1) * E.bytes ≤ 140737488355328) (h63 : n + 1 ≤ maxLen) (hB : B ≤ w.heap.size) :
    ∃ (p' : Pt) (w' : World), (Builtin.append_ #[E.S, E.S] ty #[.slice x n c, .slice (some ⟨y, 0, none⟩) 1 1]).run Try.prog w = .ok p'.v w' ∧ p'.n = n + 1 ∧ PtOk E w' B p' ∧ PtIs E w' p' (ds ++ [d]) ∧ Below w.heap.size w w' ∧ p'.g = w.heap.size := by
  obtain ⟨i, hi, hzz⟩ := Option.map_eq_some_iff.1 O.info
  simp only [Prod.mk.injEq] at hzz
  obtain ⟨hz, hs, hby⟩ := hzz
  have hen := O.len d
  have hsrc : Src Try.prog i.size E.S (.slice (some ⟨y, 0, none⟩) 1 1) 1 (E.enc d) w := Src.ofSlice w O.und ⟨y, 0, none⟩ 1 1 (E.enc d) (by rw [hs, hen]; omega) (fun j u hu => by rw [addr_add]; exact hy j u hu) (O.one d)
  have hold : (Builtin.firstCells i.size n (.slice x n c)).run Try.prog w.drew = .ok (flK E ds).toArray w.drew := by
    cases x with
    | none =>
      have h0 := hx rfl
      subst h0
      rw [List.eq_nil_of_length_eq_zero hn]
      exact run_firstCells_none w.drew i.size 0 0 c
    | some a => exact run_firstCells_some w.drew i.size n a n c (flK E ds) (by rw [hs, flK_len O, hn]) (fun j u hu => by simpa using hc a rfl j u hu)
  have hr := run_append_grow_src (P := Try.prog) w E.S E.S ty E.T i _ O.und hi hz x n c (flK E ds) hold _ 1 (E.enc d) hsrc (by omega) (by unfold maxLen at h63; omega) (growslice_fits (by omega) (by rw [hby]; omega))
  have hge := grownCap_ge w (n + 1) c E.T
  have hcm := grownCap_le_maxLen w (n + 1) c E.T h63
  obtain ⟨cap, hcap⟩ : ∃ q, grownCap w (n + 1) c E.T = q := ⟨_, rfl⟩
  rw [hcap] at hr hge hcm
  obtain ⟨A, hA⟩ : ∃ A, (flK E ds ++ E.enc d).toArray ++ Builtin.zeroCells E.z.cells (cap - (n + 1)) = A := ⟨_, rfl⟩
  rw [hA] at hr
  have hsz : A.size = cap * E.k := by
    obtain ⟨q, rfl⟩ : ∃ q, cap = n + 1 + q := ⟨cap - (n + 1), by omega⟩
    rw [← hA, Array.size_append, List.size_toArray, List.length_append, flK_len O, hen, size_zeroCells, O.zc, hn, Nat.add_sub_cancel_left, Nat.add_mul, Nat.add_mul, Nat.one_mul]
  have hbel : Below w.heap.size w (w.drew.alloc (.cells A E.T)) := (below_alloc w _).drew
  refine ⟨⟨w.heap.size, 0, n + 1, cap⟩, _, hr, rfl, ⟨hB, hge, hcm, A, heap_alloc_new w.drew _, by show 0 + cap * E.k ≤ A.size; omega⟩, ⟨by rw [List.length_append, hn]; rfl, fun j u hu => ?_⟩, hbel, rfl⟩
  rw [flK_app, flK_one1] at hu
  show (w.drew.alloc (.cells A E.T)).cell? ⟨w.heap.size, 0 + j, none⟩ = some u
  rw [cell_of_row (w.drew.alloc (.cells A E.T)) w.heap.size (0 + j) A E.T (0, 0) (heap_alloc_new w.drew (.cells A E.T)), Nat.zero_add, ← hA, Array.getElem?_append_left (by rw [List.size_toArray]; exact (List.getElem?_eq_some_iff.1 hu).1)]
  simpa using hu
/-- append(v, d): in the room behind, or in new memory. -/
theorem run_appP (O : E.Ok) (w : World) (B y : Nat) (p : Pt) (ds : List α) (d : α) (ty : TypeId) (h : PtOk E w B p) (hd : PtIs E w p ds) (hy : w.rangeAt y 0 (E.enc d)) (hl : (p.n + 1) * E.bytes ≤ 140737488355328) (h63 : p.n + 1 ≤ maxLen) (hB : B ≤ w.heap.size) :
    ∃ (p' : Pt) (w' : World), (Builtin.append_ #[E.S, E.S] ty #[p.v, .slice (some ⟨y, 0, none⟩) 1 1]).run Try.prog w = .ok p'.v w' ∧ p'.n = p.n + 1 ∧ PtOk E w' B p' ∧ PtIs E w' p' (ds ++ [d]) ∧ Cel (p.has E.k) w w' ∧ ((p'.g = p.g ∧ p'.o = p.o ∧ p'.c = p.c) ∨ (p'.g = w.heap.size ∧ Below w.heap.size w w')) := by
  obtain ⟨i, hi, hzz⟩ := Option.map_eq_some_iff.1 O.info
  simp only [Prod.mk.injEq] at hzz
  obtain ⟨hz, hs, hby⟩ := hzz
  have hen := O.len d
  have hsrc : Src Try.prog i.size E.S (.slice (some ⟨y, 0, none⟩) 1 1) 1 (E.enc d) w := Src.ofSlice w O.und ⟨y, 0, none⟩ 1 1 (E.enc d) (by rw [hs, hen]; omega) (fun j u hu => by rw [addr_add]; exact hy j u hu) (O.one d)
  by_cases hroom : p.n + 1 ≤ p.c
  · have ht := h.there (p.n * E.k) E.k (mul_fit hroom)
    have hr := run_append_room_src w E.S E.S ty E.T i O.und hi p.g p.o p.n p.c _ 1 (E.enc d) hsrc hroom (fun j hj => by rw [hs]; exact (ht j (by omega)).1) (fun j hj => by rw [hs]; exact (ht j (by omega)).2)
    rw [hs] at hr
    obtain ⟨hc, hn⟩ := h.stored O p.n d hroom
    refine ⟨⟨p.g, p.o, p.n + 1, p.c⟩, _, hr, rfl, ?_, ?_, hc, .inl ⟨rfl, rfl, rfl⟩⟩
    · have := h.cel hc
      exact ⟨this.ge, hroom, this.mx, this.row⟩
    · refine ⟨by rw [List.length_append, hd.1]; rfl, fun j u hu => ?_⟩
      show (w.setCells p.g (p.o + p.n * E.k) (E.enc d)).cell? ⟨p.g, p.o + j, none⟩ = some u
      rw [flK_app, flK_one1] at hu
      by_cases hj : j < (flK E ds).length
      · rw [List.getElem?_append_left hj] at hu
        rw [flK_len O, hd.1] at hj
        obtain ⟨cur, h1, h2⟩ := h.row
        exact (Cel.setC w p.g (p.o + p.n * E.k) (E.enc d) cur E.T (0, 0) h1).cell (hd.2 j u hu) (fun h9 => by have := h9.2.1; omega)
      · rw [List.getElem?_append_right (by omega)] at hu
        rw [flK_len O, hd.1] at hu hj
        have := hn (j - p.n * E.k) u hu
        rwa [show p.o + p.n * E.k + (j - p.n * E.k) = p.o + j by omega] at this
  · obtain ⟨p', w', h1, h2, h3, h4, h5, h6⟩ := run_growP O w B y (some ⟨p.g, p.o, none⟩) p.n p.c ds d ty hd.1 h.le (fun h9 => by cases h9) (fun a ha j u hu => by cases ha; rw [addr_add]; exact hd.2 j u hu) hy hroom hl h63 hB
    exact ⟨p', w', h1, h2, h3, h4, Cel.of_below h5, .inr ⟨h6, h5⟩⟩
/-- An element is stored: what the part holds then. -/
theorem PtIs.put (O : E.Ok) {w : World} {B : Nat} {p : Pt} {ds : List α} (h : PtOk E w B p) (hd : PtIs E w p ds) (j : Nat) (d : α) (hj : j < p.n) : PtIs E (w.setCells p.g (p.o + j * E.k) (E.enc d)) p (ds.set j d) := by
  have hjc : j < p.c := Nat.lt_of_lt_of_le hj h.le
  obtain ⟨-, hnw⟩ := h.stored O j d hjc
  have hk : 0 < E.k := O.kp
  refine ⟨by rw [List.length_set]; exact hd.1, fun t u hu => ?_⟩
  have htl := (List.getElem?_eq_some_iff.1 hu).1
  rw [flK_len O, List.length_set, hd.1] at htl
  have hq : t / E.k < p.n := Nat.div_lt_of_lt_mul (by rw [Nat.mul_comm]; exact htl)
  have hdm := Nat.div_add_mod t E.k
  have hmd := Nat.mod_lt t hk
  by_cases e : t / E.k = j
  · rw [flK_at O _ t d (by rw [e, List.getElem?_set_self (by rw [hd.1]; exact hj)])] at hu
    have := hnw (t % E.k) u hu
    rwa [Nat.add_assoc, show j * E.k + t % E.k = t by rw [← e, Nat.mul_comm]; exact hdm] at this
  · obtain ⟨d9, hd9⟩ : ∃ q, ds[t / E.k]? = some q := ⟨_, List.getElem?_eq_getElem (by rw [hd.1]; exact hq)⟩
    rw [flK_at O _ t d9 (by rw [List.getElem?_set_ne (fun h9 => e h9.symm)]; exact hd9)] at hu
    have ho := hd.2 t u (by rw [flK_at O _ t d9 hd9]; exact hu)
    obtain ⟨cur, h1, h2⟩ := h.row
    refine (Cel.setC w p.g (p.o + j * E.k) (E.enc d) cur E.T (0, 0) h1).cell ho (fun h9 => e ?_)
    obtain ⟨-, h7, h8⟩ := h9
    rw [O.len] at h8
    have hm1 : t / E.k * E.k = E.k * (t / E.k) := Nat.mul_comm _ _
    rcases Nat.lt_trichotomy (t / E.k) j with h6 | h6 | h6
    · have := mul_fit (k := E.k) h6
      omega
    · exact h6
    · have := mul_fit (k := E.k) h6
      omega
end Go.Proofs.Ytmbkkdojjfdliaa
