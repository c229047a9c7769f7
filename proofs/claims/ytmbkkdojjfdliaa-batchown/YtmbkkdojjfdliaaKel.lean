
import Derived.Test.YtmbkkdojjfdliaaApp
import Derived.Deep.MidRow
import Derived.Deep.AppendLies
import Derived.Laws.OwnMore
import Derived.Great.BuildSlice
namespace Go.Proofs.Ytmbkkdojjfdliaa
open Go.RowKit

/-! Slices whose elements are k cells each, whatever their type. -/
structure EK (α : Type) where
  T : TypeId
  S : TypeId
  k : Nat
  bytes : Nat
  z : Value
  enc : α → List Value
variable {α : Type} {E : EK α}
structure EK.Ok (E : EK α) : Prop where
  len : ∀ x, (E.enc x).length = E.k
  one : ∀ x, ∀ v ∈ E.enc x, v.oneCell' = true
  und : Try.prog.underlying E.S = some (.slice E.T)
  info : (Try.prog.info? E.T).map (fun i => (i.zero, i.size, i.bytes)) = some (some E.z, E.k, E.bytes)
  zc : E.z.cells.size = E.k
  kp : 0 < E.k
  row : ∃ d, Try.prog.underlying E.T = some d ∧ d.isRow = true
def flK (E : EK α) : List α → List Value
  | [] => []
  | d :: r => E.enc d ++ flK E r
theorem flK_len (O : E.Ok) : ∀ ds : List α, (flK E ds).length = ds.length * E.k
  | [] => by simp [flK]
  | d :: r => by rw [flK, List.length_append, O.len, flK_len O r, List.length_cons, Nat.add_mul, Nat.one_mul]; omega
theorem flK_app : ∀ (ds es : List α), flK E (ds ++ es) = flK E ds ++ flK E es
  | [], es => rfl
  | x :: r, es => by simp [flK, flK_app r es]
theorem flK_one1 (d : α) : flK E [d] = E.enc d := by simp [flK]
theorem flK_get (O : E.Ok) : ∀ (ds : List α) (i : Nat) (d : α), ds[i]? = some d → ∀ (j : Nat), j < E.k → (flK E ds)[i * E.k + j]? = (E.enc d)[j]?
  | [], i, d, h => by simp at h
  | x :: r, 0, d, h => fun j hj => by
    simp at h; subst h
    rw [flK, Nat.zero_mul, Nat.zero_add, List.getElem?_append_left (by rw [O.len]; exact hj)]
  | x :: r, i + 1, d, h => fun j hj => by
    have hl := O.len x
    rw [flK, Nat.add_mul, Nat.one_mul, List.getElem?_append_right (by omega), hl, show i * E.k + E.k + j - E.k = i * E.k + j by omega]
    exact flK_get O r i d (by simpa using h) j hj
theorem flK_at (O : E.Ok) (ds : List α) (t : Nat) (d : α) (h : ds[t / E.k]? = some d) : (flK E ds)[t]? = (E.enc d)[t % E.k]? := by
  have h1 := flK_get O ds (t / E.k) d h (t % E.k) (Nat.mod_lt _ O.kp)
  rwa [Nat.mul_comm, Nat.div_add_mod] at h1
theorem flK_all (O : E.Ok) (ds : List α) : ∀ u ∈ flK E ds, u.oneCell' = true := by
  induction ds with
  | nil => intro u hu; cases hu
  | cons d r ih =>
    intro u hu
    rw [flK, List.mem_append] at hu
    rcases hu with hu | hu
    · exact O.one d u hu
    · exact ih u hu
theorem flK_take (O : E.Ok) : ∀ (ms : List α) (K : Nat), flK E (ms.take K) = (flK E ms).take (K * E.k)
  | [], K => by simp [flK]
  | d :: r, 0 => by simp [flK]
  | d :: r, K + 1 => by
    have hl := O.len d
    rw [List.take_succ_cons, flK, flK, flK_take O r K, List.take_append, hl, List.take_of_length_le (l := E.enc d) (by rw [Nat.add_mul, Nat.one_mul]; omega), Nat.add_mul, Nat.one_mul, Nat.add_sub_cancel]
def IsK (E : EK α) (w : World) (v : Value) (ds : List α) : Prop := ∃ x c, v = .slice x ds.length c ∧ ds.length ≤ c ∧ ∀ (i : Nat) d, ds[i]? = some d → ∃ b o, x = some ⟨b, o, none⟩ ∧ b < w.heap.size ∧ w.rangeAt b (o + i * E.k) (E.enc d)
theorem range_later {w w1 : World} {b o : Nat} {cs : List Value} (h : w.rangeAt b o cs) (hb : Below w.heap.size w w1) : w1.rangeAt b o cs := fun j v hv => by
  have h1 := h j v hv
  have h2 := World.block_lt_of_cell? w _ h1
  rw [hb.cell h2]; exact h1
theorem range_block {w w1 : World} {b o : Nat} {cs : List Value} (h : w.rangeAt b o cs) (hb : w1.heap[b]? = w.heap[b]?) : w1.rangeAt b o cs := fun j v hv => by
  have h1 := h j v hv
  unfold World.cell? at h1 ⊢
  rw [hb]; exact h1
theorem IsK.kept {w w1 : World} {v : Value} {ds : List α} (h : IsK E w v ds) (hb : Below w.heap.size w w1) : IsK E w1 v ds := by
  obtain ⟨x, c, rfl, hc, hd⟩ := h
  refine ⟨x, c, rfl, hc, fun i d hi => ?_⟩
  obtain ⟨b, o, rfl, h1, h2⟩ := hd i d hi
  exact ⟨b, o, rfl, Nat.lt_of_lt_of_le h1 hb.size, range_later h2 hb⟩
theorem IsK.len {w : World} {v : Value} {ds : List α} (h : IsK E w v ds) : ∃ x c, v = .slice x ds.length c := by
  obtain ⟨x, c, rfl, -, -⟩ := h
  exact ⟨x, c, rfl⟩
theorem IsK.at {w : World} {x : Option Addr} {n c : Nat} {ds : List α} (h : IsK E w (.slice x n c) ds) (i : Nat) (d : α) (hi : ds[i]? = some d) : ∃ b o, x = some ⟨b, o, none⟩ ∧ b < w.heap.size ∧ w.rangeAt b (o + i * E.k) (E.enc d) := by
  obtain ⟨y, e, he, -, hd⟩ := h
  simp only [Value.slice.injEq] at he
  obtain ⟨rfl, -, rfl⟩ := he
  exact hd i d hi
theorem IsK.cap {w : World} {x : Option Addr} {n c : Nat} {ds : List α} (h : IsK E w (.slice x n c) ds) : n = ds.length ∧ n ≤ c := by
  obtain ⟨y, e, he, hc, -⟩ := h
  simp only [Value.slice.injEq] at he
  obtain ⟨-, rfl, rfl⟩ := he
  exact ⟨rfl, hc⟩
theorem IsK.cells (O : E.Ok) {w : World} {b o n c : Nat} {ds : List α} (h : IsK E w (.slice (some ⟨b, o, none⟩) n c) ds) : ∀ (j : Nat) (u : Value), (flK E ds)[j]? = some u → w.cell? ⟨b, o + j, none⟩ = some u := by
  intro j u hj
  have hlt : j < ds.length * E.k := by have := (List.getElem?_eq_some_iff.1 hj).1; rwa [flK_len O] at this
  have hq : j / E.k < ds.length := (Nat.div_lt_iff_lt_mul O.kp).2 hlt
  obtain ⟨d, hd⟩ : ∃ d, ds[j / E.k]? = some d := ⟨ds[j / E.k], List.getElem?_eq_getElem hq⟩
  obtain ⟨b', o', he, -, hr⟩ := h.at _ d hd
  simp only [Option.some.injEq, Addr.mk.injEq, and_true] at he
  obtain ⟨rfl, rfl⟩ := he
  rw [flK_at O ds j d hd] at hj
  have := hr (j % E.k) u hj
  rw [Nat.add_assoc, Nat.mul_comm, Nat.div_add_mod] at this
  exact this
/-- A slice of the call's own. -/
def OwnK (E : EK α) (w : World) (B : Nat) (v : Value) (ds : List α) : Prop := w.ownsRow B E.T E.k v ds.length (flK E ds)
theorem OwnK.nil (E : EK α) (w : World) (B : Nat) : OwnK E w B (.slice none 0 0) [] := World.ownsRow_nil w B E.T E.k
theorem OwnK.heap {w : World} {B g n c : Nat} {ds : List α} (h : OwnK E w B (.slice (some ⟨g, 0, none⟩) n c) ds) : ∃ cur, n = ds.length ∧ B ≤ g ∧ w.heap[g]? = some (.cells cur E.T (0, 0)) ∧ n ≤ c ∧ c ≤ maxLen ∧ cur.size = c * E.k ∧ cur.toList.take (n * E.k) = flK E ds := by
  obtain ⟨_, ⟨h0, _⟩ | ⟨g', cap, cur, he, hb, hg, hle, hm, hs, ht⟩⟩ := h
  · cases h0
  · simp only [Value.slice.injEq, Option.some.injEq, Addr.mk.injEq, and_true] at he
    obtain ⟨rfl, rfl, rfl⟩ := he
    exact ⟨cur, rfl, hb, hg, hle, hm, hs, ht⟩
theorem OwnK.isK (O : E.Ok) {w : World} {B : Nat} {v : Value} {ds : List α} (h : OwnK E w B v ds) : IsK E w v ds := by
  have h' := h
  obtain ⟨_, ⟨rfl, hn⟩ | ⟨g, cap, cur, rfl, hb, hg, hle, hm, hs, ht⟩⟩ := h
  · have : ds = [] := List.eq_nil_of_length_eq_zero hn
    subst this
    exact ⟨none, 0, rfl, Nat.le_refl _, fun i d hi => by simp at hi⟩
  · refine ⟨_, cap, rfl, hle, fun i d hi => ⟨g, 0, rfl, (World.ownsRow.lt h' g rfl).2, fun j u hu => ?_⟩⟩
    have hj : j < E.k := by have := (List.getElem?_eq_some_iff.1 hu).1; rwa [O.len] at this
    have := World.ownsRow.cells h' (g := g) rfl (i * E.k + j) u (by rw [flK_get O ds i d hi j hj]; exact hu)
    rw [addr_add, Nat.zero_add] at this
    rw [Nat.zero_add]
    exact this
theorem OwnK.keep {w w' : World} {B : Nat} {v : Value} {ds : List α} (h : OwnK E w B v ds) (hb : Below w.heap.size w w') : OwnK E w' B v ds :=
  World.ownsRow.kept h (row := none) ⟨hb.os, hb.tape, hb.output, hb.size, fun k hk _ => hb.block k hk⟩ (by
    rcases h.2 with ⟨rfl, _⟩ | ⟨g, cap, cur, rfl, _⟩
    · exact .inl rfl
    · exact .inr (by simp [Value.ownBlock]))
theorem OwnK.le {w : World} {B B' : Nat} {v : Value} {ds : List α} (h : OwnK E w B v ds) (hb : B' ≤ B) : OwnK E w B' v ds :=
  ⟨h.1, h.2.elim .inl fun ⟨g, cap, cur, hv, hg, r⟩ => .inr ⟨g, cap, cur, hv, Nat.le_trans hb hg, r⟩⟩
theorem OwnK.form {w : World} {B n c : Nat} {x : Option Addr} {ds : List α} (h : OwnK E w B (.slice x n c) ds) (h0 : 0 < ds.length) : ∃ g, x = some ⟨g, 0, none⟩ ∧ g < w.heap.size := by
  obtain ⟨g, cap, he, hbg, hlt⟩ := World.ownsRow.form h h0
  simp only [Value.slice.injEq] at he
  exact ⟨g, he.1, hlt⟩
theorem OwnK.below {w w' : World} {B : Nat} {v : Value} {ds : List α} (h : OwnK E w B v ds) (hg : w.grownBy w' v.ownBlock) (hb : B ≤ w.heap.size) : Below B w w' :=
  ⟨hg.os, hg.tape, hg.output, hg.size, fun k hk => hg.block k (by omega) (fun q => by have := World.ownsRow.lt h k q.symm; omega)⟩
theorem OwnK.under {w w' : World} {B H : Nat} {v : Value} {ds : List α} (h : OwnK E w B v ds) (hb : Below H w w') (hl : ∀ g, v.ownBlock = some g → g < H) : OwnK E w' B v ds := by
  refine ⟨h.1, ?_⟩
  rcases h.2 with hn | ⟨g, cap, cur, rfl, hb', hg, r⟩
  · exact .inl hn
  · refine .inr ⟨g, cap, cur, rfl, hb', ?_, r⟩
    rw [hb.block g (hl g rfl)]; exact hg
/-! A run of stores -/
def setM (F : Array Value) : Nat → List Value → Array Value
  | _, [] => F
  | s, v :: r => setM (F.setIfInBounds s v) (s + 1) r
@[simp] theorem setM_size : ∀ (vs : List Value) (s : Nat) (F : Array Value), (setM F s vs).size = F.size
  | [], _, _ => rfl
  | v :: r, s, F => by rw [setM, setM_size r]; simp
theorem setM_get : ∀ (vs : List Value) (s : Nat) (F : Array Value) (t : Nat), t < F.size → (setM F s vs)[t]? = if s ≤ t ∧ t < s + vs.length then vs[t - s]? else F[t]?
  | [], s, F, t, _ => by simp [setM]; omega
  | v :: r, s, F, t, h => by
    rw [setM, setM_get r (s + 1) _ t (by simpa using h)]
    by_cases h1 : s + 1 ≤ t ∧ t < s + 1 + r.length
    · rw [if_pos h1, if_pos (by simp; omega)]
      obtain ⟨u, rfl⟩ : ∃ u, t = s + 1 + u := ⟨t - (s + 1), by omega⟩
      simp [show s + 1 + u - s = u + 1 by omega]
    · rw [if_neg h1]
      by_cases h2 : t = s
      · subst h2; simp [h]
      · rw [if_neg (by simp; omega), Array.getElem?_setIfInBounds_ne (fun e => h2 e.symm)]
theorem heap_setC (b : Nat) : ∀ (vs : List Value) (o : Nat) (w : World) (cur : Array Value) (t : TypeId) (fr : Nat × Nat), w.heap[b]? = some (.cells cur t fr) → (w.setCells b o vs).heap[b]? = some (.cells (setM cur o vs) t fr)
  | [], o, w, cur, t, fr, h => h
  | v :: r, o, w, cur, t, fr, h => by
    rw [World.setCells, setM]
    exact heap_setC b r (o + 1) _ _ t fr (heap_setCell w b o v cur t fr h)
theorem setC_frame (b : Nat) : ∀ (vs : List Value) (o : Nat) (w : World), (w.setCells b o vs).heap.size = w.heap.size ∧ (w.setCells b o vs).os = w.os ∧ (w.setCells b o vs).tape = w.tape ∧ (w.setCells b o vs).output = w.output ∧ ∀ i, i ≠ b → (w.setCells b o vs).heap[i]? = w.heap[i]?
  | [], o, w => ⟨rfl, rfl, rfl, rfl, fun _ _ => rfl⟩
  | v :: r, o, w => by
    rw [World.setCells]
    obtain ⟨h1, h2, h3, h4, h5⟩ := setC_frame b r (o + 1) (w.setCell ⟨b, o, none⟩ v)
    rw [h1, h2, h3, h4]
    refine ⟨by simp [World.setCell], rfl, rfl, rfl, fun i hi => ?_⟩
    rw [h5 i hi]
    simp only [World.setCell, Array.getElem?_modify]
    rw [if_neg (fun e => hi e.symm)]
theorem grown_setC (w : World) (b : Nat) (o : Nat) (vs : List Value) : w.grownBy (w.setCells b o vs) (some b) := by
  obtain ⟨h1, h2, h3, h4, h5⟩ := setC_frame b vs o w
  exact ⟨h2, h3, h4, by omega, fun k hk hne => h5 k (fun e => hne (by rw [e]))⟩
theorem grown_drew (w : World) (n : Nat) (row : Option Nat) : w.grownBy (w.drewN n) row := ⟨rfl, rfl, rfl, Nat.le_refl _, fun _ _ _ => rfl⟩
theorem grown_two {w w1 w2 : World} {row : Option Nat} (h : w.grownBy w1 row) (k : w1.grownBy w2 row) : w.grownBy w2 row :=
  ⟨k.os.trans h.os, k.tape.trans h.tape, k.output.trans h.output, Nat.le_trans h.size k.size, fun i hi hne => (k.block i (Nat.lt_of_lt_of_le hi h.size) hne).trans (h.block i hi hne)⟩
theorem mul_fit {a b k : Nat} (h : a < b) : a * k + k ≤ b * k := by
  have := Nat.mul_le_mul_right k (show a + 1 ≤ b from h)
  rwa [Nat.add_mul, Nat.one_mul] at this
theorem OwnK.put (O : E.Ok) {w : World} {B g n c : Nat} {ms : List α} (h : OwnK E w B (.slice (some ⟨g, 0, none⟩) n c) ms) (K : Nat) (d : α) (hK : K < n) : OwnK E (w.setCells g (K * E.k) (E.enc d)) B (.slice (some ⟨g, 0, none⟩) n c) (ms.set K d) := by
  obtain ⟨cur, hn, hb, hg, hle, hm, hs, ht⟩ := h.heap
  subst hn
  have hE := O.len d
  refine ⟨by rw [flK_len O], .inr ⟨g, c, _, by rw [List.length_set], hb, heap_setC g _ _ w cur _ _ hg, by rw [List.length_set]; exact hle, hm, by simpa using hs, ?_⟩⟩
  rw [List.length_set]
  apply List.ext_getElem?
  intro t
  by_cases hj : t < ms.length * E.k
  · have hjc : t < cur.size := by rw [hs]; have := Nat.mul_le_mul_right E.k hle; omega
    have h1 : t / E.k < ms.length := (Nat.div_lt_iff_lt_mul O.kp).2 hj
    have hdm := Nat.div_add_mod t E.k
    have hml := Nat.mod_lt t O.kp
    rw [List.getElem?_take_of_lt hj, Array.getElem?_toList, setM_get _ _ _ t hjc, hE]
    by_cases e : t / E.k = K
    · have eK : K * E.k + t % E.k = t := by rw [← e, Nat.mul_comm]; exact hdm
      rw [flK_at O (ms.set K d) t d (by rw [e]; simp [hK]), if_pos (by omega), show t - K * E.k = t % E.k by omega]
    · have hno : ¬ (K * E.k ≤ t ∧ t < K * E.k + E.k) := fun ⟨a1, a2⟩ => e (by
        exact Nat.div_eq_of_lt_le a1 (by rw [Nat.add_mul, Nat.one_mul]; exact a2))
      rw [if_neg hno]
      have e1 := flK_at O (ms.set K d) t ms[t / E.k] (by rw [List.getElem?_set_ne (fun x => e x.symm)]; exact List.getElem?_eq_getElem h1)
      have e2 := flK_at O ms t ms[t / E.k] (List.getElem?_eq_getElem h1)
      rw [e1, ← e2, ← ht, List.getElem?_take_of_lt hj, Array.getElem?_toList]
  · rw [List.getElem?_take_eq_none (by omega), List.getElem?_eq_none (by rw [flK_len O, List.length_set]; omega)]
theorem OwnK.cut (O : E.Ok) {w : World} {B g n c : Nat} {ms : List α} (h : OwnK E w B (.slice (some ⟨g, 0, none⟩) n c) ms) (K : Nat) (hK : K ≤ n) : OwnK E w B (.slice (some ⟨g, 0, none⟩) K c) (ms.take K) := by
  obtain ⟨cur, hn, hb, hg, hle, hm, hs, ht⟩ := h.heap
  have hl : (ms.take K).length = K := by rw [List.length_take]; omega
  refine ⟨by rw [flK_len O], .inr ⟨g, c, cur, by rw [hl], hb, hg, by omega, hm, hs, ?_⟩⟩
  rw [flK_take O, ← ht, hl, List.take_take]
  congr 1
  have := Nat.mul_le_mul_right E.k hK
  omega
theorem OwnK.there {w : World} {B g n c : Nat} {ms : List α} (h : OwnK E w B (.slice (some ⟨g, 0, none⟩) n c) ms) (o m : Nat) (hm : o + m ≤ n * E.k) : w.there g o m := by
  obtain ⟨cur, hn, hb, hg, hle, hmx, hs, ht⟩ := h.heap
  intro j hj
  have hjc : o + j < cur.size := by rw [hs]; have := Nat.mul_le_mul_right E.k hle; omega
  refine ⟨?_, by simp [World.frozen?, hg]⟩
  simp [World.cell?, hg, hjc]
theorem OwnK.range (O : E.Ok) {w : World} {B g n c : Nat} {ms : List α} (h : OwnK E w B (.slice (some ⟨g, 0, none⟩) n c) ms) (i : Nat) (d : α) (hi : ms[i]? = some d) : w.rangeAt g (i * E.k) (E.enc d) := by
  obtain ⟨b, o, he, -, hr⟩ := (h.isK O).at i d hi
  simp only [Option.some.injEq, Addr.mk.injEq, and_true] at he
  obtain ⟨rfl, rfl⟩ := he
  rwa [Nat.zero_add] at hr
/-- A whole element is stored. -/
theorem OwnK.store (O : E.Ok) {w : World} {B g n c : Nat} {ms : List α} (h : OwnK E w B (.slice (some ⟨g, 0, none⟩) n c) ms) (K : Nat) (d : α) (hK : K < n) : (Instr.storeAt E.T (.pointer (some ⟨g, K * E.k, none⟩)) (.agg (E.enc d).toArray)).run Try.prog w = .ok () (w.setCells g (K * E.k) (E.enc d)) := by
  have ht := h.there (K * E.k) E.k (mul_fit hK)
  obtain ⟨i, hi, hzz⟩ := Option.map_eq_some_iff.1 O.info
  simp only [Prod.mk.injEq] at hzz
  have := run_storeAt_mid (P := Try.prog) w g (K * E.k) E.T (E.enc d).toArray (by rw [List.size_toArray, O.len]; exact ht) (by rw [hi, List.size_toArray, O.len]; simp [hzz.2.1]) (all_oneCell_toArray (O.one d))
  rwa [List.toList_toArray] at this
/-- A whole element is read. -/
theorem run_loadK (O : E.Ok) {w : World} {b o : Nat} {d : α} (h : w.rangeAt b o (E.enc d)) : (Instr.loadAt E.T (.pointer (some ⟨b, o, none⟩))).run Try.prog w = .ok (.agg (E.enc d).toArray) w := by
  obtain ⟨ds, hu, hr⟩ := O.row
  obtain ⟨i, hi, hzz⟩ := Option.map_eq_some_iff.1 O.info
  simp only [Prod.mk.injEq] at hzz
  exact run_loadAt_mid w b o E.T _ ds h hu hr (by rw [hi]; simp [hzz.2.1, O.len])
/-! append -/
/-- append(v, x..) of elements that lie at an address; where the new slice lies. -/
theorem run_appK (O : E.Ok) (w : World) (B : Nat) (v : Value) (ds es : List α) (x : Option Addr) (c : Nat) (ty : TypeId) (h : OwnK E w B v ds) (hx : IsK E w (.slice x es.length c) es) (h0 : es ≠ []) (hl : (ds.length + es.length) * E.bytes ≤ 140737488355328) (h63 : ds.length + es.length ≤ maxLen) (hb : B ≤ w.heap.size) :
    ∃ g c' w', (Builtin.append_ #[E.S, E.S] ty #[v, .slice x es.length c]).run Try.prog w = .ok (.slice (some ⟨g, 0, none⟩) (ds.length + es.length) c') w' ∧ OwnK E w' B (.slice (some ⟨g, 0, none⟩) (ds.length + es.length) c') (ds ++ es) ∧ w.grownBy w' v.ownBlock ∧ (v.ownBlock = some g ∨ g = w.heap.size) := by
  obtain ⟨i, hi, hzz⟩ := Option.map_eq_some_iff.1 O.info
  simp only [Prod.mk.injEq] at hzz
  obtain ⟨hz, hs, hby⟩ := hzz
  have hp : 0 < es.length := List.length_pos_iff.2 h0
  obtain ⟨b, o, rfl, -, -⟩ := hx.at 0 _ (List.getElem?_eq_getElem hp)
  obtain ⟨g, cap, w', hr, h2, h3, h4, h5⟩ := run_append_lies (P := Try.prog) w E.S ty B E.T i _ E.k E.bytes O.und hi hz hs hby O.zc O.kp v ds.length (flK E ds) h ⟨b, o, none⟩ es.length c (flK E es) (flK_len O es)
    (fun j u hu => by rw [addr_add]; exact hx.cells O j u hu) (flK_all O es) hp h63 hl hb _ rfl
  refine ⟨g, cap, w', hr, ?_, h3, h4⟩
  unfold OwnK
  rw [List.length_append, flK_app]
  exact h2
/-- append of nothing. -/
theorem run_appK0 (O : E.Ok) (w : World) (a : Option Addr) (n c' : Nat) (hn : n ≤ c') (x : Option Addr) (c : Nat) (ty : TypeId) (hx : a = none → n = 0) :
    (Builtin.append_ #[E.S, E.S] ty #[.slice a n c', .slice x 0 c]).run Try.prog w = .ok (.slice a n c') w := by
  obtain ⟨i, hi, hzz⟩ := Option.map_eq_some_iff.1 O.info
  simp only [Prod.mk.injEq] at hzz
  obtain ⟨hz, hs, hby⟩ := hzz
  cases a with
  | none =>
    have := hx rfl
    subst this
    cases x <;> simp [Builtin.append_, run_underlying O.und, sizeOf, typeInfo, hi, Builtin.lenOf, Builtin.firstCells, loadCells, loadCellsFrom]
  | some a => cases x <;> simp [Builtin.append_, run_underlying O.und, sizeOf, typeInfo, hi, Builtin.lenOf, Builtin.firstCells, loadCells, loadCellsFrom, storeCells, hn]
theorem OwnK.lit (O : E.Ok) (w : World) (ds : List α) (h : ds.length ≤ maxLen) : OwnK E (w.alloc (.cells (flK E ds).toArray E.T)) w.heap.size (.slice (some ⟨w.heap.size, 0, none⟩) ds.length ds.length) ds :=
  ⟨flK_len O ds, .inr ⟨w.heap.size, ds.length, (flK E ds).toArray, rfl, Nat.le_refl _, heap_alloc_last w _, Nat.le_refl _, h, by simp [flK_len O], by rw [List.toList_toArray, List.take_of_length_le (by rw [flK_len O]; omega)]⟩⟩
/-- append(v, x..): the old slice reads as before. -/
theorem run_appKeep (O : E.Ok) (w : World) (B : Nat) (v : Value) (ds es : List α) (x : Option Addr) (c : Nat) (ty : TypeId) (h : OwnK E w B v ds) (hx : IsK E w (.slice x es.length c) es) (h0 : es ≠ []) (hl : (ds.length + es.length) * E.bytes ≤ 140737488355328) (h63 : ds.length + es.length ≤ maxLen) (hb : B ≤ w.heap.size) :
    ∃ g c' w', (Builtin.append_ #[E.S, E.S] ty #[v, .slice x es.length c]).run Try.prog w = .ok (.slice (some ⟨g, 0, none⟩) (ds.length + es.length) c') w' ∧ OwnK E w' B (.slice (some ⟨g, 0, none⟩) (ds.length + es.length) c') (ds ++ es) ∧ OwnK E w' B v ds ∧ w.grownBy w' v.ownBlock ∧ (v.ownBlock = some g ∨ g = w.heap.size) := by
  obtain ⟨g, cap, w', hr, hO, h3, h4⟩ := run_appK O w B v ds es x c ty h hx h0 hl h63 hb
  refine ⟨g, cap, w', hr, hO, ?_, h3, h4⟩
  obtain ⟨i, hi, hzz⟩ := Option.map_eq_some_iff.1 O.info
  simp only [Prod.mk.injEq] at hzz
  obtain ⟨hz, hs, hby⟩ := hzz
  have hp : 0 < es.length := List.length_pos_iff.2 h0
  obtain ⟨b, o, rfl, -, -⟩ := hx.at 0 _ (List.getElem?_eq_getElem hp)
  have hcell : ∀ j u, (flK E es)[j]? = some u → w.cell? ((⟨b, o, none⟩ : Addr).add j) = some u := fun j u hu => by rw [addr_add]; exact hx.cells O j u hu
  rcases h.2 with ⟨rfl, hn⟩ | ⟨g0, c0, cur, rfl, hb0, hg0, hle, hm, hcs, ht⟩
  · have : ds = [] := List.eq_nil_of_length_eq_zero hn
    subst this
    exact OwnK.nil E w' B
  · by_cases hroom : ds.length + es.length ≤ c0
    · have hfit : ds.length * i.size + (flK E es).length ≤ cur.size := by
        rw [hs, flK_len O, hcs, ← Nat.add_mul]
        exact Nat.mul_le_mul_right E.k hroom
      have hr2 := run_append_room (P := Try.prog) w E.S ty E.T i O.und hi g0 ds.length c0 cur hg0 ⟨b, o, none⟩ es.length c (flK E es) (by rw [hs]; exact flK_len O es) hcell (flK_all O es) hroom hfit
      rw [hr] at hr2
      simp only [Result.ok.injEq, Value.slice.injEq, Option.some.injEq, Addr.mk.injEq, and_true] at hr2
      obtain ⟨⟨rfl, -, rfl⟩, -⟩ := hr2
      have := hO.cut O ds.length (by omega)
      rwa [List.take_left' rfl] at this
    · have hr2 := run_append_grow (P := Try.prog) w E.S ty E.T i _ O.und hi hz ⟨g0, 0, none⟩ ds.length c0 (flK E ds) (by rw [hs]; exact flK_len O ds)
        (fun j u hu => World.ownsRow.cells h (g := g0) rfl j u hu) ⟨b, o, none⟩ es.length c (flK E es) (by rw [hs]; exact flK_len O es) hcell (by omega) (by unfold maxLen at h63; omega) (growslice_fits (by omega) (by rw [hby]; omega))
      rw [hr] at hr2
      simp only [Result.ok.injEq] at hr2
      rw [hr2.2]
      exact h.keep (below_alloc w _).drew
/-- append([]T(nil), x...), append([]T{}, x...): a copy in new memory; of nothing: what it was. -/
theorem run_copyK (O : E.Ok) (w : World) (v : Value) (x : Option Addr) (c : Nat) (ds : List α) (B : Nat) (ty : TypeId) (hv : OwnK E w B v []) (hB : B ≤ w.heap.size) (h : IsK E w (.slice x ds.length c) ds) (hl : ds.length * E.bytes ≤ 140737488355328) (h63 : ds.length ≤ maxLen) :
    ∃ y c' w', (Builtin.append_ #[E.S, E.S] ty #[v, .slice x ds.length c]).run Try.prog w = .ok (.slice y ds.length c') w' ∧ OwnK E w' B (.slice y ds.length c') ds ∧ Below B w w' := by
  by_cases h0 : ds = []
  · subst h0
    rcases hv.2 with ⟨rfl, -⟩ | ⟨g, cap, cur, rfl, hb, hg, hle, hm, hs, ht⟩
    · exact ⟨none, 0, w, run_appK0 O w none 0 0 (Nat.le_refl _) x c ty (fun _ => rfl), hv, Below.refl _ _⟩
    · exact ⟨some ⟨g, 0, none⟩, cap, w, run_appK0 O w (some ⟨g, 0, none⟩) 0 cap (Nat.zero_le _) x c ty (fun _ => rfl), hv, Below.refl _ _⟩
  · obtain ⟨g, c', w', hr, hO, hg, -⟩ := run_appK O w B v [] ds x c ty hv h h0 (by simpa using hl) (by simpa using h63) hB
    rw [List.nil_append] at hO
    simp only [List.length_nil, Nat.zero_add] at hr hO
    exact ⟨_, c', w', hr, hO, hv.below hg hB⟩
/-! Literals -/
theorem blit_list (off : Nat) : ∀ (l : List Value) (k : Nat) (base : Array Value) (i : Nat), ((l.zipIdx k).foldl (fun (cs : Array Value) p => cs.setIfInBounds (off + p.2) p.1) base)[i]? = if off + k ≤ i ∧ i < off + k + l.length ∧ i < base.size then l[i - (off + k)]? else base[i]?
  | [], k, base, i => by simp; omega
  | x :: l, k, base, i => by
    rw [List.zipIdx_cons, List.foldl_cons, blit_list off l (k + 1) _ i]
    simp only [Array.size_setIfInBounds, List.length_cons]
    by_cases h1 : off + (k + 1) ≤ i ∧ i < off + (k + 1) + l.length ∧ i < base.size
    · rw [if_pos h1, if_pos (by omega), show i - (off + k) = (i - (off + (k + 1))) + 1 by omega, List.getElem?_cons_succ]
    · rw [if_neg h1]
      by_cases h2 : i = off + k
      · subst h2
        by_cases h3 : off + k < base.size
        · rw [if_pos (by omega), Nat.sub_self]; simp [h3]
        · rw [if_neg (by omega)]; simp [h3]
      · rw [if_neg (by omega), Array.getElem?_setIfInBounds_ne (fun e => h2 e.symm)]
theorem blit_get (off : Nat) (c base : Array Value) (i : Nat) : (c.zipIdx.foldl (fun (cs : Array Value) p => cs.setIfInBounds (off + p.2) p.1) base)[i]? = if off ≤ i ∧ i < off + c.size ∧ i < base.size then c[i - off]? else base[i]? := by
  have h := blit_list off c.toList 0 base i
  simp only [Nat.add_zero, Array.length_toList, Array.getElem?_toList] at h
  rw [← Array.foldl_toList, Array.toList_zipIdx]
  exact h
theorem fillK (n : Nat) (c base : Array Value) (hc : c.size = n) (hb : base.size = n) : Instr.fill (fun i => some (i * n, n)) base [(0, .agg c)] = some c := by
  have hcell : (Value.agg c).cells = c := rfl
  unfold Instr.fill
  simp only [hcell, Nat.zero_mul, hc, hb, ne_eq, not_true_eq_false, decide_false, Bool.false_or, Nat.zero_add, gt_iff_lt, Nat.lt_irrefl, Bool.false_eq_true, if_false]
  unfold Instr.fill
  congr 1
  apply Array.ext_getElem?
  intro i
  have h := blit_get 0 c base i
  simp only [Nat.zero_add] at h
  rw [h]
  by_cases hi : i < n
  · rw [if_pos (by omega), Nat.sub_zero]
  · rw [if_neg (by omega), Array.getElem?_eq_none (by omega), Array.getElem?_eq_none (by omega)]
/-- []T{x} -/
theorem run_litK1 (O : E.Ok) (hk : E.k ≤ 1000) (w : World) (d : α) : (Instr.buildSlice E.S 1 #[(0, .agg (E.enc d).toArray)]).run Try.prog w = .ok (.slice (some ⟨w.heap.size, 0, none⟩) 1 1) (w.alloc (.cells (E.enc d).toArray E.T)) := by
  obtain ⟨i, hi, hzz⟩ := Option.map_eq_some_iff.1 O.info
  simp only [Prod.mk.injEq] at hzz
  obtain ⟨hz, hs, hby⟩ := hzz
  have hp := O.kp
  exact run_buildSlice (P := Try.prog) w E.S E.T 1 _ _ i _ O.und hi hz (by rw [hs]; omega) (by rw [hs]; omega) (by rw [hs]; exact fillK E.k _ _ (by rw [List.size_toArray]; exact O.len d) (by simp))
theorem OwnK.lit1 (O : E.Ok) (w : World) (d : α) : OwnK E (w.alloc (.cells (E.enc d).toArray E.T)) w.heap.size (.slice (some ⟨w.heap.size, 0, none⟩) 1 1) [d] := by
  have := OwnK.lit O w [d] (by show 1 ≤ maxLen; decide)
  rwa [flK_one1] at this
/-- []T{} -/
theorem run_litK0 (O : E.Ok) (w : World) : (Instr.buildSlice E.S 0 #[]).run Try.prog w = .ok (.slice (some ⟨w.heap.size, 0, none⟩) 0 0) (w.alloc (.cells #[] E.T)) := by
  obtain ⟨i, hi, hzz⟩ := Option.map_eq_some_iff.1 O.info
  simp only [Prod.mk.injEq] at hzz
  obtain ⟨hz, hs, hby⟩ := hzz
  simp [Instr.buildSlice, run_underlying O.und, sizeOf, typeInfo, hi, hs]
  have e : (Array.map (fun _ => (default : Value)) (Array.range 0)) = #[] := by simp
  rw [e]
  simp [Instr.fill, newRow]
theorem OwnK.lit0 (E : EK α) (w : World) : OwnK E (w.alloc (.cells #[] E.T)) w.heap.size (.slice (some ⟨w.heap.size, 0, none⟩) 0 0) [] :=
  ⟨by simp [flK], .inr ⟨w.heap.size, 0, #[], rfl, Nat.le_refl _, heap_alloc_last w _, Nat.le_refl _, by decide, by simp, by simp [flK]⟩⟩
/-- append(v, d) -/
theorem run_app1K (O : E.Ok) (w : World) (B y : Nat) (v : Value) (ds : List α) (d : α) (ty : TypeId) (h : OwnK E w B v ds) (hy : w.rangeAt y 0 (E.enc d)) (hyl : y < w.heap.size) (hl : (ds.length + 1) * E.bytes ≤ 140737488355328) (h63 : ds.length + 1 ≤ maxLen) (hb : B ≤ w.heap.size) :
    ∃ g c' w', (Builtin.append_ #[E.S, E.S] ty #[v, .slice (some ⟨y, 0, none⟩) 1 1]).run Try.prog w = .ok (.slice (some ⟨g, 0, none⟩) (ds.length + 1) c') w' ∧ OwnK E w' B (.slice (some ⟨g, 0, none⟩) (ds.length + 1) c') (ds ++ [d]) ∧ OwnK E w' B v ds ∧ w.grownBy w' v.ownBlock ∧ (v.ownBlock = some g ∨ g = w.heap.size) :=
  run_appKeep O w B v ds [d] (some ⟨y, 0, none⟩) 1 ty h ⟨_, _, rfl, Nat.le_refl _, fun i e hi => by
    rcases i with _ | i
    · simp at hi; subst hi
      exact ⟨y, 0, rfl, hyl, by rw [Nat.zero_mul]; exact hy⟩
    · simp at hi⟩ (by simp) hl h63 hb
end Go.Proofs.Ytmbkkdojjfdliaa
