import Derived.Test.YtalnbddkhojjbaaGreatDoorQNum
import Derived.Test.YtalnbddkhojjbaaGreatDoorQRelt
import Derived.Deep.MidRow
import Derived.Deep.AppendSrc
import Derived.Deep.AppendLies
import Derived.Deep.DeepCutAuto
import Derived.Laws.OwnMore
import Derived.Great.BuildSlice
import Derived.BigQuiet
import Derived.Deep.QuietTactic
import Derived.WalkSpells
import Derived.Laws.StructEq
import Derived.SizedLaws
namespace Go.Proofs.YtalnbddkhojjbaaGreatDoor
open Go.RowKit

theorem bytesA_one (l : List UInt8) : ∀ u ∈ (bytesA l).toList, u.oneCell' = true := fun v hv => by
  simp only [bytesA, List.mem_map] at hv
  obtain ⟨b, _, rfl⟩ := hv
  rfl
theorem src_isB {w : World} {x : Option Addr} {c : Nat} {l : List UInt8} (h : IsB w (.slice x l.length c) l) : Src Tryz.prog 1 24 (.slice x l.length c) l.length (bytesA l).toList w := by
  rcases h with ⟨h, rfl⟩ | ⟨y, d, he, hc⟩
  · simp only [Value.slice.injEq] at h
    obtain ⟨rfl, _, rfl⟩ := h
    exact Src.ofNil w Tryz.underlying24 0
  · simp only [Value.slice.injEq, true_and] at he
    obtain ⟨rfl, rfl⟩ := he
    exact Src.ofSlice w Tryz.underlying24 y l.length c _ (by simp) (fun j u hu => by
      have hj : j < l.length := by have := (List.getElem?_eq_some_iff.1 hu).1; simpa using this
      rw [Array.getElem?_toList, bytesA_get l j hj] at hu
      rw [hc j hj]; exact hu) (bytesA_one l)
def OwnB (w : World) (base : Nat) (v : Value) (l : List UInt8) : Prop := w.ownsRow base 5 1 v l.length (bytesA l).toList
theorem OwnB.isB {w : World} {base : Nat} {v : Value} {l : List UInt8} (h : OwnB w base v l) : IsB w v l := by
  have h' := h
  obtain ⟨_, ⟨rfl, hn⟩ | ⟨g, cap, cur, rfl, hb, hg, hle, hm, hs, ht⟩⟩ := h
  · exact .inl ⟨rfl, List.eq_nil_of_length_eq_zero hn⟩
  · refine .inr ⟨_, cap, rfl, fun i hi => ?_⟩
    have := h'.cells (g := g) rfl i (Value.int .u8 (l[i].toNat : Int)) (by rw [Array.getElem?_toList, bytesA_get l i hi])
    exact this
theorem below_grown {w w' : World} {base : Nat} {v : Value} {l : List UInt8} (h : OwnB w base v l) (hg : w.grownBy w' v.ownBlock) (hb : base ≤ w.heap.size) : Below base w w' :=
  ⟨hg.os, hg.tape, hg.output, hg.size, fun k hk => hg.block k (by omega) (fun e => by have := h.lt k e.symm; omega)⟩
theorem OwnB.keep {w w' : World} {base : Nat} {v : Value} {l : List UInt8} (h : OwnB w base v l) (hb : Below w.heap.size w w') : OwnB w' base v l :=
  World.ownsRow.kept h (row := none) ⟨hb.os, hb.tape, hb.output, hb.size, fun k hk _ => hb.block k hk⟩ (by
    rcases h.2 with ⟨rfl, _⟩ | ⟨g, cap, cur, rfl, _⟩
    · exact .inl rfl
    · exact .inr (by simp [Value.ownBlock]))
theorem wpL_app {ops : Array Oper} {rest : List Oper} {o : Oper} {a : Act} {w : World} {Q : Exit → Act → World → Prop} (hgd : o.guard = none) (s x : Operand)
    (ho : o.op = .call { callee := .builtin .append, args := #[s, x], argTypes := #[24, 24] }) (v' : Value) (w' : World) (hr : (Builtin.append_ #[24, 24] o.type #[a.eval s, a.eval x]).run Tryz.prog w = .ok v' w')
    (h : wpList Tryz.prog ops Q rest (a.put o.dst v') w') : wpList Tryz.prog ops Q (o :: rest) a w :=
  wpList_plain hgd fun _ hK => by
    unfold Oper.wp execOp
    simp only [ho, resolve, invoke, builtin, Sem.run_bind, Sem.run_pure, Result.andThen_ok, List.map_toArray, List.map_cons, List.map_nil, hr]
    exact hK _ _ h
theorem run_app_nil0 (w : World) (x : Option Addr) (c : Nat) (ty : TypeId) (h : IsB w (.slice x 0 c) []) :
    (Builtin.append_ #[24, 24] ty #[.slice none 0 0, .slice x 0 c]).run Tryz.prog w = .ok (.slice none 0 0) w := by
  obtain ⟨i, hi, hzz⟩ := Option.map_eq_some_iff.1 info5
  simp only [Prod.mk.injEq] at hzz
  obtain ⟨hz, hs, hb⟩ := hzz
  have hsr := src_isB (l := []) h
  have e1 := hsr.len
  have e2 := hsr.cells
  simp only [List.length_nil] at e1 e2
  simp [Builtin.append_, run_underlying Tryz.underlying24, sizeOf, typeInfo, hi, e1, hs, e2]
theorem OwnB.form {w : World} {base : Nat} {v : Value} {l : List UInt8} (h : OwnB w base v l) (h0 : l ≠ []) : ∃ g c, v = .slice (some ⟨g, 0, none⟩) l.length c ∧ base ≤ g ∧ l.length ≤ c ∧ c ≤ maxLen := by
  obtain ⟨_, ⟨rfl, hn⟩ | ⟨g, cap, cur, rfl, hb, hg, hle, hm, hs, ht⟩⟩ := h
  · exact absurd (List.eq_nil_of_length_eq_zero hn) h0
  · exact ⟨g, cap, rfl, hb, hle, hm⟩
theorem run_app_more (w : World) (base : Nat) (v : Value) (l : List UInt8) (x : Option Addr) (c : Nat) (m : List UInt8) (ty : TypeId) (hv : OwnB w base v l) (h : IsB w (.slice x m.length c) m) (hl : l.length + m.length ≤ 140737488355328) (hb : base ≤ w.heap.size) :
    ∃ v' w', (Builtin.append_ #[24, 24] ty #[v, .slice x m.length c]).run Tryz.prog w = .ok v' w' ∧ OwnB w' base v' (l ++ m) ∧ w.grownBy w' v.ownBlock ∧ (∀ g, v'.ownBlock = some g → v.ownBlock = some g ∨ g = w.heap.size) := by
  obtain ⟨i, hi, hzz⟩ := Option.map_eq_some_iff.1 info5
  simp only [Prod.mk.injEq] at hzz
  obtain ⟨hz, hs, hby⟩ := hzz
  by_cases hm : m = []
  · subst hm
    have hv' := hv
    obtain ⟨_, ⟨rfl, hn⟩ | ⟨g, cap, cur, rfl, hbg, hg, hle, hmx, hsz, ht⟩⟩ := hv
    · refine ⟨_, _, run_app_nil0 w x c ty h, by rw [List.append_nil]; exact hv', World.grownBy.refl w _, fun g hg => .inl hg⟩
    · have hr := run_append_room_src (P := Tryz.prog) w 24 24 ty 5 i Tryz.underlying24 hi g 0 l.length cap _ 0 (bytesA []).toList (by rw [hs]; exact src_isB (l := []) h) (by omega) (by simp [bytesA]) (by simp [bytesA])
      simp [bytesA, World.setCells] at hr
      exact ⟨_, _, hr, by rw [List.append_nil]; exact hv', World.grownBy.refl w _, fun g hg => .inl hg⟩
  · have hp : 0 < m.length := List.length_pos_iff.2 hm
    rcases h with ⟨_, h⟩ | ⟨y, d, he, hc⟩
    · exact absurd h hm
    · simp only [Value.slice.injEq, true_and] at he
      obtain ⟨rfl, rfl⟩ := he
      obtain ⟨g, cap, w', hr, h2, h3, h4, h5⟩ := run_append_lies (P := Tryz.prog) w 24 ty base 5 i _ 1 1 Tryz.underlying24 hi hz hs hby rfl (by omega) v l.length (bytesA l).toList hv y m.length c (bytesA m).toList (by simp)
        (fun j u hu => by
          have hj : j < m.length := by have := (List.getElem?_eq_some_iff.1 hu).1; simpa using this
          rw [Array.getElem?_toList, bytesA_get m j hj] at hu
          rw [hc j hj]; exact hu) (bytesA_one m) hp (by unfold maxLen; omega) (by omega) hb _ rfl
      refine ⟨_, w', hr, ?_, h3, fun g' hg' => ?_⟩
      · unfold OwnB
        rw [List.length_append]
        have e : (bytesA (l ++ m)).toList = (bytesA l).toList ++ (bytesA m).toList := by simp [bytesA]
        rw [e]; exact h2
      · simp only [Value.ownBlock, Option.some.injEq] at hg'
        subst hg'; exact h4
end Go.Proofs.YtalnbddkhojjbaaGreatDoor
namespace Go.Proofs.YtalnbddkhojjbaaGreatDoor
open Go.RowKit

structure EK (α : Type) where
  T : TypeId
  S : TypeId
  k : Nat
  bytes : Nat
  z : Value
  enc : α → List Value
variable {α : Type} {E : EK α}
structure EK.Ok (E : EK α) : Prop where
  len : ∀ x, (E.enc x).length = E.k
  one : ∀ x, ∀ v ∈ E.enc x, v.oneCell' = true
  und : Tryz.prog.underlying E.S = some (.slice E.T)
  info : (Tryz.prog.info? E.T).map (fun i => (i.zero, i.size, i.bytes)) = some (some E.z, E.k, E.bytes)
  zc : E.z.cells.size = E.k
  kp : 0 < E.k
  row : ∃ d, Tryz.prog.underlying E.T = some d ∧ d.isRow = true
def flK (E : EK α) : List α → List Value
  | [] => []
  | d :: r => E.enc d ++ flK E r
theorem flK_len (O : E.Ok) : ∀ ds : List α, (flK E ds).length = ds.length * E.k
  | [] => by simp [flK]
  | d :: r => by rw [flK, List.length_append, O.len, flK_len O r, List.length_cons, Nat.add_mul, Nat.one_mul]; omega
theorem flK_app : ∀ (ds es : List α), flK E (ds ++ es) = flK E ds ++ flK E es
  | [], es => rfl
  | x :: r, es => by simp [flK, flK_app r es]
theorem flK_one1 (d : α) : flK E [d] = E.enc d := by simp [flK]
theorem flK_get (O : E.Ok) : ∀ (ds : List α) (i : Nat) (d : α), ds[i]? = some d → ∀ (j : Nat), j < E.k → (flK E ds)[i * E.k + j]? = (E.enc d)[j]?
  | [], i, d, h => by simp at h
  | x :: r, 0, d, h => fun j hj => by
    simp at h; subst h
    rw [flK, Nat.zero_mul, Nat.zero_add, List.getElem?_append_left (by rw [O.len]; exact hj)]
  | x :: r, i + 1, d, h => fun j hj => by
    have hl := O.len x
    rw [flK, Nat.add_mul, Nat.one_mul, List.getElem?_append_right (by omega), hl, show i * E.k + E.k + j - E.k = i * E.k + j by omega]
    exact flK_get O r i d (by simpa using h) j hj
theorem flK_at (O : E.Ok) (ds : List α) (t : Nat) (d : α) (h : ds[t / E.k]? = some d) : (flK E ds)[t]? = (E.enc d)[t % E.k]? := by
  have h1 := flK_get O ds (t / E.k) d h (t % E.k) (Nat.mod_lt _ O.kp)
  rwa [Nat.mul_comm, Nat.div_add_mod] at h1
theorem flK_all (O : E.Ok) (ds : List α) : ∀ u ∈ flK E ds, u.oneCell' = true := by
  induction ds with
  | nil => intro u hu; cases hu
  | cons d r ih =>
    intro u hu
    rw [flK, List.mem_append] at hu
    rcases hu with hu | hu
    · exact O.one d u hu
    · exact ih u hu
theorem flK_take (O : E.Ok) : ∀ (ms : List α) (K : Nat), flK E (ms.take K) = (flK E ms).take (K * E.k)
  | [], K => by simp [flK]
  | d :: r, 0 => by simp [flK]
  | d :: r, K + 1 => by
    have hl := O.len d
    rw [List.take_succ_cons, flK, flK, flK_take O r K, List.take_append, hl, List.take_of_length_le (l := E.enc d) (by rw [Nat.add_mul, Nat.one_mul]; omega), Nat.add_mul, Nat.one_mul, Nat.add_sub_cancel]
def IsK (E : EK α) (w : World) (v : Value) (ds : List α) : Prop := ∃ x c, v = .slice x ds.length c ∧ ds.length ≤ c ∧ ∀ (i : Nat) d, ds[i]? = some d → ∃ b o, x = some ⟨b, o, none⟩ ∧ b < w.heap.size ∧ w.rangeAt b (o + i * E.k) (E.enc d)
theorem range_later {w w1 : World} {b o : Nat} {cs : List Value} (h : w.rangeAt b o cs) (hb : Below w.heap.size w w1) : w1.rangeAt b o cs := fun j v hv => by
  have h1 := h j v hv
  have h2 := World.block_lt_of_cell? w _ h1
  rw [hb.cell h2]; exact h1
theorem range_block {w w1 : World} {b o : Nat} {cs : List Value} (h : w.rangeAt b o cs) (hb : w1.heap[b]? = w.heap[b]?) : w1.rangeAt b o cs := fun j v hv => by
  have h1 := h j v hv
  unfold World.cell? at h1 ⊢
  rw [hb]; exact h1
theorem IsK.kept {w w1 : World} {v : Value} {ds : List α} (h : IsK E w v ds) (hb : Below w.heap.size w w1) : IsK E w1 v ds := by
  obtain ⟨x, c, rfl, hc, hd⟩ := h
  refine ⟨x, c, rfl, hc, fun i d hi => ?_⟩
  obtain ⟨b, o, rfl, h1, h2⟩ := hd i d hi
  exact ⟨b, o, rfl, Nat.lt_of_lt_of_le h1 hb.size, range_later h2 hb⟩
theorem IsK.len {w : World} {v : Value} {ds : List α} (h : IsK E w v ds) : ∃ x c, v = .slice x ds.length c := by
  obtain ⟨x, c, rfl, -, -⟩ := h
  exact ⟨x, c, rfl⟩
theorem IsK.at {w : World} {x : Option Addr} {n c : Nat} {ds : List α} (h : IsK E w (.slice x n c) ds) (i : Nat) (d : α) (hi : ds[i]? = some d) : ∃ b o, x = some ⟨b, o, none⟩ ∧ b < w.heap.size ∧ w.rangeAt b (o + i * E.k) (E.enc d) := by
  obtain ⟨y, e, he, -, hd⟩ := h
  simp only [Value.slice.injEq] at he
  obtain ⟨rfl, -, rfl⟩ := he
  exact hd i d hi
theorem IsK.cap {w : World} {x : Option Addr} {n c : Nat} {ds : List α} (h : IsK E w (.slice x n c) ds) : n = ds.length ∧ n ≤ c := by
  obtain ⟨y, e, he, hc, -⟩ := h
  simp only [Value.slice.injEq] at he
  obtain ⟨-, rfl, rfl⟩ := he
  exact ⟨rfl, hc⟩
theorem IsK.cells (O : E.Ok) {w : World} {b o n c : Nat} {ds : List α} (h : IsK E w (.slice (some ⟨b, o, none⟩) n c) ds) : ∀ (j : Nat) (u : Value), (flK E ds)[j]? = some u → w.cell? ⟨b, o + j, none⟩ = some u := by
  intro j u hj
  have hlt : j < ds.length * E.k := by have := (List.getElem?_eq_some_iff.1 hj).1; rwa [flK_len O] at this
  have hq : j / E.k < ds.length := (Nat.div_lt_iff_lt_mul O.kp).2 hlt
  obtain ⟨d, hd⟩ : ∃ d, ds[j / E.k]? = some d := ⟨ds[j / E.k], List.getElem?_eq_getElem hq⟩
  obtain ⟨b', o', he, -, hr⟩ := h.at _ d hd
  simp only [Option.some.injEq, Addr.mk.injEq, and_true] at he
  obtain ⟨rfl, rfl⟩ := he
  rw [flK_at O ds j d hd] at hj
  have := hr (j % E.k) u hj
  rw [Nat.add_assoc, Nat.mul_comm, Nat.div_add_mod] at this
  exact this
def OwnK (E : EK α) (w : World) (B : Nat) (v : Value) (ds : List α) : Prop := w.ownsRow B E.T E.k v ds.length (flK E ds)
theorem OwnK.nil (E : EK α) (w : World) (B : Nat) : OwnK E w B (.slice none 0 0) [] := World.ownsRow_nil w B E.T E.k
theorem OwnK.heap {w : World} {B g n c : Nat} {ds : List α} (h : OwnK E w B (.slice (some ⟨g, 0, none⟩) n c) ds) : ∃ cur, n = ds.length ∧ B ≤ g ∧ w.heap[g]? = some (.cells cur E.T (0, 0)) ∧ n ≤ c ∧ c ≤ maxLen ∧ cur.size = c * E.k ∧ cur.toList.take (n * E.k) = flK E ds := by
  obtain ⟨_, ⟨h0, _⟩ | ⟨g', cap, cur, he, hb, hg, hle, hm, hs, ht⟩⟩ := h
  · cases h0
  · simp only [Value.slice.injEq, Option.some.injEq, Addr.mk.injEq, and_true] at he
    obtain ⟨rfl, rfl, rfl⟩ := he
    exact ⟨cur, rfl, hb, hg, hle, hm, hs, ht⟩
theorem OwnK.isK (O : E.Ok) {w : World} {B : Nat} {v : Value} {ds : List α} (h : OwnK E w B v ds) : IsK E w v ds := by
  have h' := h
  obtain ⟨_, ⟨rfl, hn⟩ | ⟨g, cap, cur, rfl, hb, hg, hle, hm, hs, ht⟩⟩ := h
  · have : ds = [] := List.eq_nil_of_length_eq_zero hn
    subst this
    exact ⟨none, 0, rfl, Nat.le_refl _, fun i d hi => by simp at hi⟩
  · refine ⟨_, cap, rfl, hle, fun i d hi => ⟨g, 0, rfl, (World.ownsRow.lt h' g rfl).2, fun j u hu => ?_⟩⟩
    have hj : j < E.k := by have := (List.getElem?_eq_some_iff.1 hu).1; rwa [O.len] at this
    have := World.ownsRow.cells h' (g := g) rfl (i * E.k + j) u (by rw [flK_get O ds i d hi j hj]; exact hu)
    rw [addr_add, Nat.zero_add] at this
    rw [Nat.zero_add]
    exact this
theorem OwnK.keep {w w' : World} {B : Nat} {v : Value} {ds : List α} (h : OwnK E w B v ds) (hb : Below w.heap.size w w') : OwnK E w' B v ds :=
  World.ownsRow.kept h (row := none) ⟨hb.os, hb.tape, hb.output, hb.size, fun k hk _ => hb.block k hk⟩ (by
    rcases h.2 with ⟨rfl, _⟩ | ⟨g, cap, cur, rfl, _⟩
    · exact .inl rfl
    · exact .inr (by simp [Value.ownBlock]))
theorem OwnK.le {w : World} {B B' : Nat} {v : Value} {ds : List α} (h : OwnK E w B v ds) (hb : B' ≤ B) : OwnK E w B' v ds :=
  ⟨h.1, h.2.elim .inl fun ⟨g, cap, cur, hv, hg, r⟩ => .inr ⟨g, cap, cur, hv, Nat.le_trans hb hg, r⟩⟩
theorem OwnK.form {w : World} {B n c : Nat} {x : Option Addr} {ds : List α} (h : OwnK E w B (.slice x n c) ds) (h0 : 0 < ds.length) : ∃ g, x = some ⟨g, 0, none⟩ ∧ g < w.heap.size := by
  obtain ⟨g, cap, he, hbg, hlt⟩ := World.ownsRow.form h h0
  simp only [Value.slice.injEq] at he
  exact ⟨g, he.1, hlt⟩
theorem OwnK.below {w w' : World} {B : Nat} {v : Value} {ds : List α} (h : OwnK E w B v ds) (hg : w.grownBy w' v.ownBlock) (hb : B ≤ w.heap.size) : Below B w w' :=
  ⟨hg.os, hg.tape, hg.output, hg.size, fun k hk => hg.block k (by omega) (fun q => by have := World.ownsRow.lt h k q.symm; omega)⟩
def setM (F : Array Value) : Nat → List Value → Array Value
  | _, [] => F
  | s, v :: r => setM (F.setIfInBounds s v) (s + 1) r
@[simp] theorem setM_size : ∀ (vs : List Value) (s : Nat) (F : Array Value), (setM F s vs).size = F.size
  | [], _, _ => rfl
  | v :: r, s, F => by rw [setM, setM_size r]; simp
theorem setM_get : ∀ (vs : List Value) (s : Nat) (F : Array Value) (t : Nat), t < F.size → (setM F s vs)[t]? = if s ≤ t ∧ t < s + vs.length then vs[t - s]? else F[t]?
  | [], s, F, t, _ => by simp [setM]; omega
  | v :: r, s, F, t, h => by
    rw [setM, setM_get r (s + 1) _ t (by simpa using h)]
    by_cases h1 : s + 1 ≤ t ∧ t < s + 1 + r.length
    · rw [if_pos h1, if_pos (by simp; omega)]
      obtain ⟨u, rfl⟩ : ∃ u, t = s + 1 + u := ⟨t - (s + 1), by omega⟩
      simp [show s + 1 + u - s = u + 1 by omega]
    · rw [if_neg h1]
      by_cases h2 : t = s
      · subst h2; simp [h]
      · rw [if_neg (by simp; omega), Array.getElem?_setIfInBounds_ne (fun e => h2 e.symm)]
theorem heap_setC (b : Nat) : ∀ (vs : List Value) (o : Nat) (w : World) (cur : Array Value) (t : TypeId) (fr : Nat × Nat), w.heap[b]? = some (.cells cur t fr) → (w.setCells b o vs).heap[b]? = some (.cells (setM cur o vs) t fr)
  | [], o, w, cur, t, fr, h => h
  | v :: r, o, w, cur, t, fr, h => by
    rw [World.setCells, setM]
    exact heap_setC b r (o + 1) _ _ t fr (heap_setCell w b o v cur t fr h)
theorem setC_frame (b : Nat) : ∀ (vs : List Value) (o : Nat) (w : World), (w.setCells b o vs).heap.size = w.heap.size ∧ (w.setCells b o vs).os = w.os ∧ (w.setCells b o vs).tape = w.tape ∧ (w.setCells b o vs).output = w.output ∧ ∀ i, i ≠ b → (w.setCells b o vs).heap[i]? = w.heap[i]?
  | [], o, w => ⟨rfl, rfl, rfl, rfl, fun _ _ => rfl⟩
  | v :: r, o, w => by
    rw [World.setCells]
    obtain ⟨h1, h2, h3, h4, h5⟩ := setC_frame b r (o + 1) (w.setCell ⟨b, o, none⟩ v)
    rw [h1, h2, h3, h4]
    refine ⟨by simp [World.setCell], rfl, rfl, rfl, fun i hi => ?_⟩
    rw [h5 i hi]
    simp only [World.setCell, Array.getElem?_modify]
    rw [if_neg (fun e => hi e.symm)]
theorem grown_setC (w : World) (b : Nat) (o : Nat) (vs : List Value) : w.grownBy (w.setCells b o vs) (some b) := by
  obtain ⟨h1, h2, h3, h4, h5⟩ := setC_frame b vs o w
  exact ⟨h2, h3, h4, by omega, fun k hk hne => h5 k (fun e => hne (by rw [e]))⟩
theorem grown_two {w w1 w2 : World} {row : Option Nat} (h : w.grownBy w1 row) (k : w1.grownBy w2 row) : w.grownBy w2 row :=
  ⟨k.os.trans h.os, k.tape.trans h.tape, k.output.trans h.output, Nat.le_trans h.size k.size, fun i hi hne => (k.block i (Nat.lt_of_lt_of_le hi h.size) hne).trans (h.block i hi hne)⟩
theorem mul_fit {a b k : Nat} (h : a < b) : a * k + k ≤ b * k := by
  have := Nat.mul_le_mul_right k (show a + 1 ≤ b from h)
  rwa [Nat.add_mul, Nat.one_mul] at this
theorem OwnK.put (O : E.Ok) {w : World} {B g n c : Nat} {ms : List α} (h : OwnK E w B (.slice (some ⟨g, 0, none⟩) n c) ms) (K : Nat) (d : α) (hK : K < n) : OwnK E (w.setCells g (K * E.k) (E.enc d)) B (.slice (some ⟨g, 0, none⟩) n c) (ms.set K d) := by
  obtain ⟨cur, hn, hb, hg, hle, hm, hs, ht⟩ := h.heap
  subst hn
  have hE := O.len d
  refine ⟨by rw [flK_len O], .inr ⟨g, c, _, by rw [List.length_set], hb, heap_setC g _ _ w cur _ _ hg, by rw [List.length_set]; exact hle, hm, by simpa using hs, ?_⟩⟩
  rw [List.length_set]
  apply List.ext_getElem?
  intro t
  by_cases hj : t < ms.length * E.k
  · have hjc : t < cur.size := by rw [hs]; have := Nat.mul_le_mul_right E.k hle; omega
    have h1 : t / E.k < ms.length := (Nat.div_lt_iff_lt_mul O.kp).2 hj
    have hdm := Nat.div_add_mod t E.k
    have hml := Nat.mod_lt t O.kp
    rw [List.getElem?_take_of_lt hj, Array.getElem?_toList, setM_get _ _ _ t hjc, hE]
    by_cases e : t / E.k = K
    · have eK : K * E.k + t % E.k = t := by rw [← e, Nat.mul_comm]; exact hdm
      rw [flK_at O (ms.set K d) t d (by rw [e]; simp [hK]), if_pos (by omega), show t - K * E.k = t % E.k by omega]
    · have hno : ¬ (K * E.k ≤ t ∧ t < K * E.k + E.k) := fun ⟨a1, a2⟩ => e (by
        exact Nat.div_eq_of_lt_le a1 (by rw [Nat.add_mul, Nat.one_mul]; exact a2))
      rw [if_neg hno]
      have e1 := flK_at O (ms.set K d) t ms[t / E.k] (by rw [List.getElem?_set_ne (fun x => e x.symm)]; exact List.getElem?_eq_getElem h1)
      have e2 := flK_at O ms t ms[t / E.k] (List.getElem?_eq_getElem h1)
      rw [e1, ← e2, ← ht, List.getElem?_take_of_lt hj, Array.getElem?_toList]
  · rw [List.getElem?_take_eq_none (by omega), List.getElem?_eq_none (by rw [flK_len O, List.length_set]; omega)]
theorem OwnK.cut (O : E.Ok) {w : World} {B g n c : Nat} {ms : List α} (h : OwnK E w B (.slice (some ⟨g, 0, none⟩) n c) ms) (K : Nat) (hK : K ≤ n) : OwnK E w B (.slice (some ⟨g, 0, none⟩) K c) (ms.take K) := by
  obtain ⟨cur, hn, hb, hg, hle, hm, hs, ht⟩ := h.heap
  have hl : (ms.take K).length = K := by rw [List.length_take]; omega
  refine ⟨by rw [flK_len O], .inr ⟨g, c, cur, by rw [hl], hb, hg, by omega, hm, hs, ?_⟩⟩
  rw [flK_take O, ← ht, hl, List.take_take]
  congr 1
  have := Nat.mul_le_mul_right E.k hK
  omega
theorem OwnK.there {w : World} {B g n c : Nat} {ms : List α} (h : OwnK E w B (.slice (some ⟨g, 0, none⟩) n c) ms) (o m : Nat) (hm : o + m ≤ n * E.k) : w.there g o m := by
  obtain ⟨cur, hn, hb, hg, hle, hmx, hs, ht⟩ := h.heap
  intro j hj
  have hjc : o + j < cur.size := by rw [hs]; have := Nat.mul_le_mul_right E.k hle; omega
  refine ⟨?_, by simp [World.frozen?, hg]⟩
  simp [World.cell?, hg, hjc]
theorem OwnK.range (O : E.Ok) {w : World} {B g n c : Nat} {ms : List α} (h : OwnK E w B (.slice (some ⟨g, 0, none⟩) n c) ms) (i : Nat) (d : α) (hi : ms[i]? = some d) : w.rangeAt g (i * E.k) (E.enc d) := by
  obtain ⟨b, o, he, -, hr⟩ := (h.isK O).at i d hi
  simp only [Option.some.injEq, Addr.mk.injEq, and_true] at he
  obtain ⟨rfl, rfl⟩ := he
  rwa [Nat.zero_add] at hr
theorem OwnK.store (O : E.Ok) {w : World} {B g n c : Nat} {ms : List α} (h : OwnK E w B (.slice (some ⟨g, 0, none⟩) n c) ms) (K : Nat) (d : α) (hK : K < n) : (Instr.storeAt E.T (.pointer (some ⟨g, K * E.k, none⟩)) (.agg (E.enc d).toArray)).run Tryz.prog w = .ok () (w.setCells g (K * E.k) (E.enc d)) := by
  have ht := h.there (K * E.k) E.k (mul_fit hK)
  obtain ⟨i, hi, hzz⟩ := Option.map_eq_some_iff.1 O.info
  simp only [Prod.mk.injEq] at hzz
  have := run_storeAt_mid (P := Tryz.prog) w g (K * E.k) E.T (E.enc d).toArray (by rw [List.size_toArray, O.len]; exact ht) (by rw [hi, List.size_toArray, O.len]; simp [hzz.2.1]) (all_oneCell_toArray (O.one d))
  rwa [List.toList_toArray] at this
theorem run_loadK (O : E.Ok) {w : World} {b o : Nat} {d : α} (h : w.rangeAt b o (E.enc d)) : (Instr.loadAt E.T (.pointer (some ⟨b, o, none⟩))).run Tryz.prog w = .ok (.agg (E.enc d).toArray) w := by
  obtain ⟨ds, hu, hr⟩ := O.row
  obtain ⟨i, hi, hzz⟩ := Option.map_eq_some_iff.1 O.info
  simp only [Prod.mk.injEq] at hzz
  exact run_loadAt_mid w b o E.T _ ds h hu hr (by rw [hi]; simp [hzz.2.1, O.len])
theorem run_appK (O : E.Ok) (w : World) (B : Nat) (v : Value) (ds es : List α) (x : Option Addr) (c : Nat) (ty : TypeId) (h : OwnK E w B v ds) (hx : IsK E w (.slice x es.length c) es) (h0 : es ≠ []) (hl : (ds.length + es.length) * E.bytes ≤ 140737488355328) (h63 : ds.length + es.length ≤ maxLen) (hb : B ≤ w.heap.size) :
    ∃ g c' w', (Builtin.append_ #[E.S, E.S] ty #[v, .slice x es.length c]).run Tryz.prog w = .ok (.slice (some ⟨g, 0, none⟩) (ds.length + es.length) c') w' ∧ OwnK E w' B (.slice (some ⟨g, 0, none⟩) (ds.length + es.length) c') (ds ++ es) ∧ w.grownBy w' v.ownBlock ∧ (v.ownBlock = some g ∨ g = w.heap.size) := by
  obtain ⟨i, hi, hzz⟩ := Option.map_eq_some_iff.1 O.info
  simp only [Prod.mk.injEq] at hzz
  obtain ⟨hz, hs, hby⟩ := hzz
  have hp : 0 < es.length := List.length_pos_iff.2 h0
  obtain ⟨b, o, rfl, -, -⟩ := hx.at 0 _ (List.getElem?_eq_getElem hp)
  obtain ⟨g, cap, w', hr, h2, h3, h4, h5⟩ := run_append_lies (P := Tryz.prog) w E.S ty B E.T i _ E.k E.bytes O.und hi hz hs hby O.zc O.kp v ds.length (flK E ds) h ⟨b, o, none⟩ es.length c (flK E es) (flK_len O es)
    (fun j u hu => by rw [addr_add]; exact hx.cells O j u hu) (flK_all O es) hp h63 hl hb _ rfl
  refine ⟨g, cap, w', hr, ?_, h3, h4⟩
  unfold OwnK
  rw [List.length_append, flK_app]
  exact h2
theorem run_appK0 (O : E.Ok) (w : World) (a : Option Addr) (n c' : Nat) (hn : n ≤ c') (x : Option Addr) (c : Nat) (ty : TypeId) (hx : a = none → n = 0) :
    (Builtin.append_ #[E.S, E.S] ty #[.slice a n c', .slice x 0 c]).run Tryz.prog w = .ok (.slice a n c') w := by
  obtain ⟨i, hi, hzz⟩ := Option.map_eq_some_iff.1 O.info
  simp only [Prod.mk.injEq] at hzz
  obtain ⟨hz, hs, hby⟩ := hzz
  cases a with
  | none =>
    have := hx rfl
    subst this
    cases x <;> simp [Builtin.append_, run_underlying O.und, sizeOf, typeInfo, hi, Builtin.lenOf, Builtin.firstCells, loadCells, loadCellsFrom]
  | some a => cases x <;> simp [Builtin.append_, run_underlying O.und, sizeOf, typeInfo, hi, Builtin.lenOf, Builtin.firstCells, loadCells, loadCellsFrom, storeCells, hn]
theorem OwnK.lit (O : E.Ok) (w : World) (ds : List α) (h : ds.length ≤ maxLen) : OwnK E (w.alloc (.cells (flK E ds).toArray E.T)) w.heap.size (.slice (some ⟨w.heap.size, 0, none⟩) ds.length ds.length) ds :=
  ⟨flK_len O ds, .inr ⟨w.heap.size, ds.length, (flK E ds).toArray, rfl, Nat.le_refl _, heap_alloc_last w _, Nat.le_refl _, h, by simp [flK_len O], by rw [List.toList_toArray, List.take_of_length_le (by rw [flK_len O]; omega)]⟩⟩
theorem run_appKeep (O : E.Ok) (w : World) (B : Nat) (v : Value) (ds es : List α) (x : Option Addr) (c : Nat) (ty : TypeId) (h : OwnK E w B v ds) (hx : IsK E w (.slice x es.length c) es) (h0 : es ≠ []) (hl : (ds.length + es.length) * E.bytes ≤ 140737488355328) (h63 : ds.length + es.length ≤ maxLen) (hb : B ≤ w.heap.size) :
    ∃ g c' w', (Builtin.append_ #[E.S, E.S] ty #[v, .slice x es.length c]).run Tryz.prog w = .ok (.slice (some ⟨g, 0, none⟩) (ds.length + es.length) c') w' ∧ OwnK E w' B (.slice (some ⟨g, 0, none⟩) (ds.length + es.length) c') (ds ++ es) ∧ OwnK E w' B v ds ∧ w.grownBy w' v.ownBlock ∧ (v.ownBlock = some g ∨ g = w.heap.size) := by
  obtain ⟨g, cap, w', hr, hO, h3, h4⟩ := run_appK O w B v ds es x c ty h hx h0 hl h63 hb
  refine ⟨g, cap, w', hr, hO, ?_, h3, h4⟩
  obtain ⟨i, hi, hzz⟩ := Option.map_eq_some_iff.1 O.info
  simp only [Prod.mk.injEq] at hzz
  obtain ⟨hz, hs, hby⟩ := hzz
  have hp : 0 < es.length := List.length_pos_iff.2 h0
  obtain ⟨b, o, rfl, -, -⟩ := hx.at 0 _ (List.getElem?_eq_getElem hp)
  have hcell : ∀ j u, (flK E es)[j]? = some u → w.cell? ((⟨b, o, none⟩ : Addr).add j) = some u := fun j u hu => by rw [addr_add]; exact hx.cells O j u hu
  rcases h.2 with ⟨rfl, hn⟩ | ⟨g0, c0, cur, rfl, hb0, hg0, hle, hm, hcs, ht⟩
  · have : ds = [] := List.eq_nil_of_length_eq_zero hn
    subst this
    exact OwnK.nil E w' B
  · by_cases hroom : ds.length + es.length ≤ c0
    · have hfit : ds.length * i.size + (flK E es).length ≤ cur.size := by
        rw [hs, flK_len O, hcs, ← Nat.add_mul]
        exact Nat.mul_le_mul_right E.k hroom
      have hr2 := run_append_room (P := Tryz.prog) w E.S ty E.T i O.und hi g0 ds.length c0 cur hg0 ⟨b, o, none⟩ es.length c (flK E es) (by rw [hs]; exact flK_len O es) hcell (flK_all O es) hroom hfit
      rw [hr] at hr2
      simp only [Result.ok.injEq, Value.slice.injEq, Option.some.injEq, Addr.mk.injEq, and_true] at hr2
      obtain ⟨⟨rfl, -, rfl⟩, -⟩ := hr2
      have := hO.cut O ds.length (by omega)
      rwa [List.take_left' rfl] at this
    · have hr2 := run_append_grow (P := Tryz.prog) w E.S ty E.T i _ O.und hi hz ⟨g0, 0, none⟩ ds.length c0 (flK E ds) (by rw [hs]; exact flK_len O ds)
        (fun j u hu => World.ownsRow.cells h (g := g0) rfl j u hu) ⟨b, o, none⟩ es.length c (flK E es) (by rw [hs]; exact flK_len O es) hcell (by omega) (by unfold maxLen at h63; omega) (growslice_fits (by omega) (by rw [hby]; omega))
      rw [hr] at hr2
      simp only [Result.ok.injEq] at hr2
      rw [hr2.2]
      exact h.keep (below_alloc w _).drew
theorem blit_list (off : Nat) : ∀ (l : List Value) (k : Nat) (base : Array Value) (i : Nat), ((l.zipIdx k).foldl (fun (cs : Array Value) p => cs.setIfInBounds (off + p.2) p.1) base)[i]? = if off + k ≤ i ∧ i < off + k + l.length ∧ i < base.size then l[i - (off + k)]? else base[i]?
  | [], k, base, i => by simp; omega
  | x :: l, k, base, i => by
    rw [List.zipIdx_cons, List.foldl_cons, blit_list off l (k + 1) _ i]
    simp only [Array.size_setIfInBounds, List.length_cons]
    by_cases h1 : off + (k + 1) ≤ i ∧ i < off + (k + 1) + l.length ∧ i < base.size
    · rw [if_pos h1, if_pos (by omega), show i - (off + k) = (i - (off + (k + 1))) + 1 by omega, List.getElem?_cons_succ]
    · rw [if_neg h1]
      by_cases h2 : i = off + k
      · subst h2
        by_cases h3 : off + k < base.size
        · rw [if_pos (by omega), Nat.sub_self]; simp [h3]
        · rw [if_neg (by omega)]; simp [h3]
      · rw [if_neg (by omega), Array.getElem?_setIfInBounds_ne (fun e => h2 e.symm)]
theorem blit_get (off : Nat) (c base : Array Value) (i : Nat) : (c.zipIdx.foldl (fun (cs : Array Value) p => cs.setIfInBounds (off + p.2) p.1) base)[i]? = if off ≤ i ∧ i < off + c.size ∧ i < base.size then c[i - off]? else base[i]? := by
  have h := blit_list off c.toList 0 base i
  simp only [Nat.add_zero, Array.length_toList, Array.getElem?_toList] at h
  rw [← Array.foldl_toList, Array.toList_zipIdx]
  exact h
theorem fillK (n : Nat) (c base : Array Value) (hc : c.size = n) (hb : base.size = n) : Instr.fill (fun i => some (i * n, n)) base [(0, .agg c)] = some c := by
  have hcell : (Value.agg c).cells = c := rfl
  unfold Instr.fill
  simp only [hcell, Nat.zero_mul, hc, hb, ne_eq, not_true_eq_false, decide_false, Bool.false_or, Nat.zero_add, gt_iff_lt, Nat.lt_irrefl, Bool.false_eq_true, if_false]
  unfold Instr.fill
  congr 1
  apply Array.ext_getElem?
  intro i
  have h := blit_get 0 c base i
  simp only [Nat.zero_add] at h
  rw [h]
  by_cases hi : i < n
  · rw [if_pos (by omega), Nat.sub_zero]
  · rw [if_neg (by omega), Array.getElem?_eq_none (by omega), Array.getElem?_eq_none (by omega)]
theorem run_litK1 (O : E.Ok) (hk : E.k ≤ 1000) (w : World) (d : α) : (Instr.buildSlice E.S 1 #[(0, .agg (E.enc d).toArray)]).run Tryz.prog w = .ok (.slice (some ⟨w.heap.size, 0, none⟩) 1 1) (w.alloc (.cells (E.enc d).toArray E.T)) := by
  obtain ⟨i, hi, hzz⟩ := Option.map_eq_some_iff.1 O.info
  simp only [Prod.mk.injEq] at hzz
  obtain ⟨hz, hs, hby⟩ := hzz
  have hp := O.kp
  exact run_buildSlice (P := Tryz.prog) w E.S E.T 1 _ _ i _ O.und hi hz (by rw [hs]; omega) (by rw [hs]; omega) (by rw [hs]; exact fillK E.k _ _ (by rw [List.size_toArray]; exact O.len d) (by simp))
theorem OwnK.lit1 (O : E.Ok) (w : World) (d : α) : OwnK E (w.alloc (.cells (E.enc d).toArray E.T)) w.heap.size (.slice (some ⟨w.heap.size, 0, none⟩) 1 1) [d] := by
  have := OwnK.lit O w [d] (by show 1 ≤ maxLen; decide)
  rwa [flK_one1] at this
theorem run_app1K (O : E.Ok) (w : World) (B y : Nat) (v : Value) (ds : List α) (d : α) (ty : TypeId) (h : OwnK E w B v ds) (hy : w.rangeAt y 0 (E.enc d)) (hyl : y < w.heap.size) (hl : (ds.length + 1) * E.bytes ≤ 140737488355328) (h63 : ds.length + 1 ≤ maxLen) (hb : B ≤ w.heap.size) :
    ∃ g c' w', (Builtin.append_ #[E.S, E.S] ty #[v, .slice (some ⟨y, 0, none⟩) 1 1]).run Tryz.prog w = .ok (.slice (some ⟨g, 0, none⟩) (ds.length + 1) c') w' ∧ OwnK E w' B (.slice (some ⟨g, 0, none⟩) (ds.length + 1) c') (ds ++ [d]) ∧ OwnK E w' B v ds ∧ w.grownBy w' v.ownBlock ∧ (v.ownBlock = some g ∨ g = w.heap.size) :=
  run_appKeep O w B v ds [d] (some ⟨y, 0, none⟩) 1 ty h ⟨_, _, rfl, Nat.le_refl _, fun i e hi => by
    rcases i with _ | i
    · simp at hi; subst hi
      exact ⟨y, 0, rfl, hyl, by rw [Nat.zero_mul]; exact hy⟩
    · simp at hi⟩ (by simp) hl h63 hb
end Go.Proofs.YtalnbddkhojjbaaGreatDoor
namespace Go.Proofs.YtalnbddkhojjbaaGreatDoor
open Go.RowKit

abbrev Sc := Nat → UInt8
abbrev Wr := Int × Sc
def rgOk (w : World) (b o k : Nat) : Bool := (List.range k).all fun j => (w.cell? ⟨b, o + j, none⟩).isSome
def rg (w : World) (b o k : Nat) : Array Value := ((List.range k).map fun j => (w.cell? ⟨b, o + j, none⟩).getD undef).toArray
theorem rg_of {w : World} {b o k : Nat} {cs : List Value} (h : w.rangeAt b o cs) (hk : cs.length = k) : rgOk w b o k = true ∧ rg w b o k = cs.toArray := by
  subst hk
  have hc : ∀ j (hj : j < cs.length), w.cell? ⟨b, o + j, none⟩ = some cs[j] := fun j hj => h j _ (List.getElem?_eq_getElem hj)
  constructor
  · unfold rgOk
    rw [List.all_eq_true]
    intro j hj
    rw [hc j (by simpa using hj)]; rfl
  · unfold rg
    congr 1
    apply List.ext_getElem (by simp)
    intro j h1 h2
    simp [hc j h2]
theorem rangeAt_rg {w : World} {b o k : Nat} (h : rgOk w b o k = true) : w.rangeAt b o (rg w b o k).toList := fun j v hv => by
  have hj : j < k := by have := (List.getElem?_eq_some_iff.1 hv).1; simpa [rg] using this
  unfold rgOk at h
  have hs := List.all_eq_true.1 h j (by simpa using hj)
  obtain ⟨u, hu⟩ := Option.isSome_iff_exists.1 hs
  simp [rg, hj, hu] at hv
  rw [hu, hv]
theorem rg_size (w : World) (b o k : Nat) : (rg w b o k).size = k := by simp [rg]
@[go_sem] theorem rg_drewN (w : World) (n b o k : Nat) : rg (w.drewN n) b o k = rg w b o k := rfl
@[go_sem] theorem rgOk_drewN (w : World) (n b o k : Nat) : rgOk (w.drewN n) b o k = rgOk w b o k := rfl
@[go_sem] theorem rg_drew (w : World) (b o k : Nat) : rg w.drew b o k = rg w b o k := rfl
@[go_sem] theorem rgOk_drew (w : World) (b o k : Nat) : rgOk w.drew b o k = rgOk w b o k := rfl
theorem rg_later {w w1 : World} {b : Nat} (hb : Below w.heap.size w w1) (hlt : b < w.heap.size) (o k : Nat) : rgOk w1 b o k = rgOk w b o k ∧ rg w1 b o k = rg w b o k := by
  have h : ∀ j, w1.cell? ⟨b, o + j, none⟩ = w.cell? ⟨b, o + j, none⟩ := fun j => hb.cell (p := ⟨b, o + j, none⟩) hlt
  unfold rgOk rg
  simp only [h]
  exact ⟨trivial, trivial⟩
section
variable (ρ : Operand → Value) (dst : Option Tmp) (ty ty' : TypeId) (pos : String) (after : Array Edge) (guard : Option (Nat × Bool))
end
section
variable (ρ : Operand → Value) (dst : Option Tmp) (ty : TypeId) (pos : String) (after : Array Edge) (guard : Option (Nat × Bool))
end
end Go.Proofs.YtalnbddkhojjbaaGreatDoor
namespace Go.Proofs.YtalnbddkhojjbaaGreatDoor
open Go.RowKit

structure Elt (t e : TypeId) (bytes : Nat) : Prop where
  ht : Tryz.prog.underlying t = some (.slice e)
  info : ∃ i z, Tryz.prog.info? e = some i ∧ i.zero = some z ∧ i.size = 1 ∧ i.bytes = bytes ∧ z.cells.size = 1
def IsG (w : World) (v : Value) (xs : List Value) : Prop :=
  (v = .slice none 0 0 ∧ xs = []) ∨ ∃ x c, v = .slice (some x) xs.length c ∧ ∀ i (h : i < xs.length), w.cell? (x.add i) = some xs[i]
theorem IsG.len {w : World} {v : Value} {xs : List Value} (h : IsG w v xs) : ∃ x c, v = .slice x xs.length c := by
  rcases h with ⟨rfl, rfl⟩ | ⟨x, c, rfl, _⟩
  · exact ⟨none, 0, rfl⟩
  · exact ⟨some x, c, rfl⟩
theorem IsG.kept {w w1 : World} {v : Value} {xs : List Value} (h : IsG w v xs) (hb : Below w.heap.size w w1) : IsG w1 v xs := by
  rcases h with h | ⟨x, c, rfl, hc⟩
  · exact .inl h
  · exact .inr ⟨x, c, rfl, fun i hi => by rw [hb.cell (World.block_lt_of_cell? w _ (hc i hi))]; exact hc i hi⟩
theorem IsG.spot {w : World} {x : Option Addr} {n c : Nat} {xs : List Value} (hv : IsG w (.slice x n c) xs) (k : Nat) (hk : k < xs.length) :
    ∃ b o, x = some ⟨b, o, none⟩ ∧ b < w.heap.size ∧ ∀ j u, xs[j]? = some u → w.cell? ⟨b, o + j, none⟩ = some u := by
  rcases hv with ⟨_, rfl⟩ | ⟨y, d, he, hc⟩
  · simp at hk
  · simp only [Value.slice.injEq] at he
    obtain ⟨rfl, _, rfl⟩ := he
    obtain ⟨b, o, sp⟩ := y
    have hsp : sp = none := by simpa [Addr.add] using World.cell?_spot (hc 0 (by omega))
    subst hsp
    have hlt := World.block_lt_of_cell? w _ (hc k hk)
    rw [addr_add] at hlt
    refine ⟨b, o, rfl, hlt, fun j u hj => ?_⟩
    have hj' := (List.getElem?_eq_some_iff.1 hj).1
    have := hc j hj'
    rw [addr_add] at this
    rw [this, ← hj, List.getElem?_eq_getElem hj']
def OwnG (e : TypeId) (w : World) (base : Nat) (v : Value) (xs : List Value) : Prop := w.ownsRow base e 1 v xs.length xs
theorem OwnG.nil (e : TypeId) (w : World) (base : Nat) : OwnG e w base (.slice none 0 0) [] := World.ownsRow_nil w base e 1
theorem OwnG.lt {e : TypeId} {w : World} {base : Nat} {v : Value} {xs : List Value} (h : OwnG e w base v xs) : ∀ k, v.ownBlock = some k → base ≤ k ∧ k < w.heap.size := World.ownsRow.lt h
theorem OwnG.form {e : TypeId} {w : World} {base : Nat} {v : Value} {xs : List Value} (h : OwnG e w base v xs) (h0 : xs ≠ []) : ∃ g c, v = .slice (some ⟨g, 0, none⟩) xs.length c ∧ base ≤ g ∧ g < w.heap.size ∧ xs.length ≤ c ∧ c ≤ maxLen := by
  have h' := h
  obtain ⟨_, ⟨rfl, hn⟩ | ⟨g, cap, cur, rfl, hb, hg, hle, hm, hs, ht⟩⟩ := h
  · exact absurd (List.eq_nil_of_length_eq_zero hn) h0
  · exact ⟨g, cap, rfl, hb, (OwnG.lt h' g rfl).2, hle, hm⟩
theorem OwnG.cell {e : TypeId} {w : World} {base g n c : Nat} {xs : List Value} (h : OwnG e w base (.slice (some ⟨g, 0, none⟩) n c) xs) (j : Nat) (u : Value) (hj : xs[j]? = some u) : w.cell? ⟨g, j, none⟩ = some u := by
  have := World.ownsRow.cells h (g := g) rfl j u hj
  rw [addr_add, Nat.zero_add] at this
  exact this
theorem OwnG.frozen {e : TypeId} {w : World} {base g n c : Nat} {xs : List Value} (h : OwnG e w base (.slice (some ⟨g, 0, none⟩) n c) xs) (j : Nat) : w.frozen? ⟨g, j, none⟩ = false := by
  obtain ⟨_, ⟨h0, _⟩ | ⟨g', cap, cur, he, hb, hg, hle, hm, hs, ht⟩⟩ := h
  · cases h0
  · simp only [Value.slice.injEq, Option.some.injEq, Addr.mk.injEq, and_true] at he
    obtain ⟨rfl, _, rfl⟩ := he
    exact frozen_of_row w g j cur _ hg
theorem OwnG.isG {e : TypeId} {w : World} {base : Nat} {v : Value} {xs : List Value} (h : OwnG e w base v xs) : IsG w v xs := by
  have h' := h
  obtain ⟨_, ⟨rfl, hn⟩ | ⟨g, cap, cur, rfl, hb, hg, hle, hm, hs, ht⟩⟩ := h
  · exact .inl ⟨rfl, List.eq_nil_of_length_eq_zero hn⟩
  · exact .inr ⟨_, cap, rfl, fun i hi => by rw [addr_add, Nat.zero_add]; exact OwnG.cell h' i _ (List.getElem?_eq_getElem hi)⟩
theorem OwnG.grown {e : TypeId} {w w' : World} {base : Nat} {v : Value} {xs : List Value} {row : Option Nat} (h : OwnG e w base v xs) (hg : w.grownBy w' row) (hne : v.ownBlock = none ∨ v.ownBlock ≠ row) : OwnG e w' base v xs := World.ownsRow.kept h hg hne
theorem OwnG.keep {e : TypeId} {w w' : World} {base : Nat} {v : Value} {xs : List Value} (h : OwnG e w base v xs) (hb : Below w.heap.size w w') : OwnG e w' base v xs :=
  World.ownsRow.kept h (row := none) ⟨hb.os, hb.tape, hb.output, hb.size, fun k hk _ => hb.block k hk⟩ (by
    rcases h.2 with ⟨rfl, _⟩ | ⟨g, cap, cur, rfl, _⟩
    · exact .inl rfl
    · exact .inr (by simp [Value.ownBlock]))
theorem OwnG.below {e : TypeId} {w w' : World} {base : Nat} {v : Value} {xs : List Value} (h : OwnG e w base v xs) (hg : w.grownBy w' v.ownBlock) (hb : base ≤ w.heap.size) : Below base w w' :=
  ⟨hg.os, hg.tape, hg.output, hg.size, fun k hk => hg.block k (by omega) (fun q => by have := h.lt k q.symm; omega)⟩
theorem OwnG.lit (e : TypeId) (w : World) (xs : List Value) (hm : xs.length ≤ maxLen) : OwnG e (w.alloc (.cells xs.toArray e)) w.heap.size (.slice (some ⟨w.heap.size, 0, none⟩) xs.length xs.length) xs :=
  ⟨by simp, .inr ⟨w.heap.size, xs.length, xs.toArray, rfl, Nat.le_refl _, heap_alloc_last w _, Nat.le_refl _, hm, by simp, by simp⟩⟩
theorem OwnG.le {e : TypeId} {w : World} {base base' : Nat} {v : Value} {xs : List Value} (h : OwnG e w base v xs) (hb : base' ≤ base) : OwnG e w base' v xs :=
  ⟨h.1, h.2.elim .inl fun ⟨g, cap, cur, hv, hg, r⟩ => .inr ⟨g, cap, cur, hv, Nat.le_trans hb hg, r⟩⟩
theorem OwnG.num {e : TypeId} {w : World} {base : Nat} {x : Option Addr} {n c : Nat} {xs : List Value} (h : OwnG e w base (.slice x n c) xs) : n = xs.length := by
  obtain ⟨_, ⟨he, hn⟩ | ⟨g, cap, cur, he, _⟩⟩ := h
  · simp only [Value.slice.injEq] at he; omega
  · simp only [Value.slice.injEq] at he; exact he.2.1
theorem OwnG.put {e : TypeId} {w : World} {base g n c : Nat} {xs : List Value} (h : OwnG e w base (.slice (some ⟨g, 0, none⟩) n c) xs) (j : Nat) (u : Value) : OwnG e (w.setCell ⟨g, j, none⟩ u) base (.slice (some ⟨g, 0, none⟩) n c) (xs.set j u) ∧ w.grownBy (w.setCell ⟨g, j, none⟩ u) (some g) := by
  have hn := h.num
  subst hn
  have := World.ownsRow.stored h j u
  unfold OwnG
  rw [List.length_set]
  exact this
variable {t e : TypeId} {bytes : Nat}
theorem wpL_appG {ops : Array Oper} {rest : List Oper} {o : Oper} {a : Act} {w : World} {Q : Exit → Act → World → Prop} (t : TypeId) (hgd : o.guard = none) (s x : Operand)
    (ho : o.op = .call { callee := .builtin .append, args := #[s, x], argTypes := #[t, t] }) (v' : Value) (w' : World) (hr : (Builtin.append_ #[t, t] o.type #[a.eval s, a.eval x]).run Tryz.prog w = .ok v' w')
    (h : wpList Tryz.prog ops Q rest (a.put o.dst v') w') : wpList Tryz.prog ops Q (o :: rest) a w :=
  wpList_plain hgd fun _ hK => by
    unfold Oper.wp execOp
    simp only [ho, resolve, invoke, builtin, Sem.run_bind, Sem.run_pure, Result.andThen_ok, List.map_toArray, List.map_cons, List.map_nil, hr]
    exact hK _ _ h
end Go.Proofs.YtalnbddkhojjbaaGreatDoor
namespace Go.Proofs.YtalnbddkhojjbaaGreatDoor
open Go.RowKit

theorem OwnB.newB (w : World) (l : List UInt8) (n : Nat) (hn : l.length = n) (hl : n ≤ maxLen) : OwnB (w.alloc (.cells (bytesA l) 5)) w.heap.size (.slice (some ⟨w.heap.size, 0, none⟩) n n) l := by
  subst hn
  refine ⟨by simp [bytesA], .inr ⟨w.heap.size, l.length, bytesA l, rfl, Nat.le_refl _, heap_alloc_last w _, Nat.le_refl _, hl, by simp, ?_⟩⟩
  rw [Nat.mul_one, List.take_of_length_le (by simp)]
theorem OwnB.cellB {w : World} {base g n c : Nat} {l : List UInt8} (h : OwnB w base (.slice (some ⟨g, 0, none⟩) n c) l) (i : Nat) (hi : i < l.length) : w.cell? ⟨g, i, none⟩ = some (Value.int .u8 ((lB l i).toNat : Int)) := by
  obtain ⟨b, o, he, hb, hc⟩ : ∃ b o, (⟨g, 0, none⟩ : Addr) = ⟨b, o, none⟩ ∧ b < w.heap.size ∧ ∀ j (_ : j < l.length), w.cell? ⟨b, o + j, none⟩ = some (Value.int .u8 (l[j].toNat : Int)) := by
    rcases h.isB with ⟨h, _⟩ | ⟨y, d, he, hc⟩
    · cases h
    · simp only [Value.slice.injEq, Option.some.injEq] at he
      obtain ⟨rfl, -, -⟩ := he
      exact ⟨g, 0, rfl, by have := World.block_lt_of_cell? w _ (hc i hi); rw [addr_add] at this; exact this, fun j hj => by have := hc j hj; rw [addr_add] at this; exact this⟩
  cases he
  have := hc i hi
  rw [Nat.zero_add] at this
  rw [this]
  unfold lB
  rw [List.getElem?_eq_getElem hi]; rfl
theorem OwnB.softB {w : World} {base : Nat} {l : List UInt8} {g n c : Nat} (h : OwnB w base (.slice (some ⟨g, 0, none⟩) n c) l) (j : Nat) : w.frozen? ⟨g, j, none⟩ = false := by
  obtain ⟨_, ⟨h, _⟩ | ⟨g', cap, cur, he, hb, hg, -⟩⟩ := h
  · cases h
  · simp only [Value.slice.injEq, Option.some.injEq, Addr.mk.injEq] at he
    obtain ⟨⟨rfl, -⟩, -⟩ := he
    simp [World.frozen?, hg]
theorem OwnB.setB {w : World} {base g c n : Nat} {l : List UInt8} (h : OwnB w base (.slice (some ⟨g, 0, none⟩) n c) l) (hn : l.length = n) (j : Nat) (b : UInt8) : OwnB (w.setCell ⟨g, j, none⟩ (.int .u8 (b.toNat : Int))) base (.slice (some ⟨g, 0, none⟩) n c) (l.set j b) := by
  subst hn
  have := (World.ownsRow.stored h j (.int .u8 (b.toNat : Int))).1
  unfold OwnB
  rw [List.length_set, show (bytesA (l.set j b)).toList = (bytesA l).toList.set j (.int .u8 (b.toNat : Int)) by simp [bytesA, List.map_set]]
  exact this
theorem IsB.frontB {w : World} {b o m c n : Nat} {l : List UInt8} (h : IsB w (.slice (some ⟨b, o, none⟩) n c) l) (hm : m ≤ l.length) : IsB w (.slice (some ⟨b, o, none⟩) m c) (l.take m) := by
  rcases h with ⟨h, _⟩ | ⟨y, d, he, hc⟩
  · cases h
  · simp only [Value.slice.injEq, Option.some.injEq] at he
    obtain ⟨rfl, rfl, rfl⟩ := he
    have hl : (l.take m).length = m := by rw [List.length_take]; omega
    refine .inr ⟨_, c, by rw [hl], fun i hi => ?_⟩
    rw [hc i (by omega), List.getElem_take]
theorem IsB.byteB {w : World} {b o n c : Nat} {l : List UInt8} (h : IsB w (.slice (some ⟨b, o, none⟩) n c) l) (i : Nat) (hi : i < l.length) : w.cell? ⟨b, o + i, none⟩ = some (.int .u8 ((lB l i).toNat : Int)) := by
  rcases h with ⟨h, _⟩ | ⟨y, d, he, hc⟩
  · cases h
  · simp only [Value.slice.injEq, Option.some.injEq] at he
    obtain ⟨rfl, rfl, rfl⟩ := he
    have := hc i hi
    rw [addr_add] at this
    rw [this]; unfold lB; rw [List.getElem?_eq_getElem hi]; rfl
def bCut (x lo hi : Value) : Sem Next := do pure (.value (← Instr.sliceAt 24 x (some lo) (some hi) none))
section
variable (ρ : Operand → Value) (dst : Option Tmp) (ty : TypeId) (pos : String) (after : Array Edge) (guard : Option (Nat × Bool))
@[go_sem ↓] theorem execOp_bCut (x lo hi : Operand) : execOp ρ { dst, op := .slice 24 x (some lo) (some hi) none, type := ty, pos, after, guard } = bCut (ρ x) (ρ lo) (ρ hi) := rfl
end
end Go.Proofs.YtalnbddkhojjbaaGreatDoor
namespace Go.Proofs.YtalnbddkhojjbaaGreatDoor
open Go.RowKit

structure Keep (F : List Nat) (w w' : World) : Prop where
  os : w'.os = w.os
  tape : w'.tape = w.tape
  output : w'.output = w.output
  size : w.heap.size ≤ w'.heap.size
  block : ∀ k, k < w.heap.size → k ∉ F → w'.heap[k]? = w.heap[k]?
theorem Keep.of_below {F : List Nat} {w w' : World} (h : Below w.heap.size w w') : Keep F w w' := ⟨h.os, h.tape, h.output, h.size, fun k hk _ => h.block k hk⟩
theorem Keep.of_grown {F : List Nat} {w w' : World} {row : Option Nat} (h : w.grownBy w' row) (hr : ∀ q, row = some q → q ∈ F) : Keep F w w' :=
  ⟨h.os, h.tape, h.output, h.size, fun k hk hn => h.block k hk (fun e => hn (hr k e.symm))⟩
theorem OwnK.keeps {α : Type} {E : EK α} {F : List Nat} {w w' : World} {B : Nat} {v : Value} {ds : List α} (h : OwnK E w B v ds) (hK : Keep F w w') (hq : ∀ q, v.ownBlock = some q → q ∉ F) : OwnK E w' B v ds := by
  refine ⟨h.1, ?_⟩
  rcases h.2 with hn | ⟨g, cap, cur, rfl, hb, hg, rest⟩
  · exact .inl hn
  · refine .inr ⟨g, cap, cur, rfl, hb, ?_, rest⟩
    rw [hK.block g (Array.getElem?_eq_some_iff.1 hg).1 (hq g rfl)]
    exact hg
end Go.Proofs.YtalnbddkhojjbaaGreatDoor
namespace Go.Proofs.YtalnbddkhojjbaaGreatDoor
open Go.RowKit

variable {α : Type} {E : EK α}
theorem IsK.oldBlock {w w1 : World} {x : Option Addr} {n c q : Nat} {ds : List α} (h : IsK E w (.slice x n c) ds) (hx : (Value.slice x n c).ownBlock = some q ∨ ds = []) (hb : w1.heap[q]? = w.heap[q]?) (hs : w.heap.size ≤ w1.heap.size) : IsK E w1 (.slice x n c) ds := by
  obtain ⟨y, e, he, hc, hd⟩ := h
  refine ⟨y, e, he, hc, fun i d hi => ?_⟩
  obtain ⟨b, o, hy, hl, hr⟩ := hd i d hi
  simp only [Value.slice.injEq] at he
  obtain ⟨rfl, -, -⟩ := he
  subst hy
  have hq : b = q := by
    rcases hx with hx | hx
    · have h9 : some b = some q := hx
      exact Option.some.inj h9
    · rw [hx] at hi; simp at hi
  subst hq
  exact ⟨b, o, rfl, by omega, range_block hr hb⟩
structure OldK (E : EK α) (w : World) (B : Nat) (x : Option Addr) (nx cx : Nat) (p : Value) (dx dp : List α) : Prop where
  own : OwnK E w B p dp
  old : IsK E w (.slice x nx cx) dx
  lt : ∀ q, (Value.slice x nx cx).ownBlock = some q → q < w.heap.size
  one : ∀ q, (Value.slice x nx cx).ownBlock = some q → p.ownBlock = some q → ∃ np cp, x = some ⟨q, 0, none⟩ ∧ p = .slice (some ⟨q, 0, none⟩) np cp ∧ dx = dp.take nx ∧ nx ≤ np
theorem OldK.start (O : E.Ok) {w : World} {B : Nat} {x : Option Addr} {n c : Nat} {ds : List α} (h : OwnK E w B (.slice x n c) ds) : OldK E w B x n c (.slice x n c) ds ds := by
  refine ⟨h, h.isK O, fun q hq => (World.ownsRow.lt h q hq).2, fun q hq _ => ⟨n, c, ?_, ?_, ?_, Nat.le_refl _⟩⟩
  all_goals
    have hcap := (h.isK O).cap
    rcases h.2 with ⟨h0, _⟩ | ⟨g, cap, cur, he, _⟩
    · simp only [Value.slice.injEq] at h0
      rw [h0.1] at hq
      cases hq
    · simp only [Value.slice.injEq] at he
      have hx := he.1
      subst hx
      have h9 : some g = some q := hq
      cases h9
      first | rfl | rw [List.take_of_length_le (by omega)]
theorem OldK.app (O : E.Ok) {w : World} {B y : Nat} {x : Option Addr} {nx cx : Nat} {p : Value} {dx dp : List α} (d : α) (ty : TypeId) (h : OldK E w B x nx cx p dx dp) (hy : w.rangeAt y 0 (E.enc d)) (hyl : y < w.heap.size) (hl : (dp.length + 1) * E.bytes ≤ 140737488355328) (h63 : dp.length + 1 ≤ maxLen) (hb : B ≤ w.heap.size) :
    ∃ g c' w', (Builtin.append_ #[E.S, E.S] ty #[p, .slice (some ⟨y, 0, none⟩) 1 1]).run Tryz.prog w = .ok (.slice (some ⟨g, 0, none⟩) (dp.length + 1) c') w' ∧ OldK E w' B x nx cx (.slice (some ⟨g, 0, none⟩) (dp.length + 1) c') dx (dp ++ [d]) ∧ w.grownBy w' p.ownBlock ∧ (p.ownBlock = some g ∨ g = w.heap.size) := by
  obtain ⟨g, c', w', hr, hO, hP, hg, hway⟩ := run_app1K O w B y p dp d ty h.own hy hyl hl h63 hb
  have hnx : nx = dx.length := h.old.cap.1
  refine ⟨g, c', w', hr, ⟨hO, ?_, fun q hq => Nat.lt_of_lt_of_le (h.lt q hq) hg.size, fun q hq hp => ?_⟩, hg, hway⟩
  · cases hq : (Value.slice x nx cx).ownBlock with
    | none =>
      have h0 : dx = [] := by
        cases hdx : dx with
        | nil => rfl
        | cons a r =>
          rw [hdx] at h
          obtain ⟨b, o, hx, -⟩ := h.old.at 0 a rfl
          rw [hx] at hq
          cases hq
      subst h0
      obtain ⟨z, e, he, hc, -⟩ := h.old
      exact ⟨z, e, he, hc, fun i d hi => by simp at hi⟩
    | some q =>
      by_cases hpq : p.ownBlock = some q
      · obtain ⟨np, cp, rfl, rfl, hdx, hle⟩ := h.one q hq hpq
        have h1 := hP.isK O
        have hnp := h1.cap
        obtain ⟨z, e, he, hc, -⟩ := h.old
        refine ⟨z, e, he, hc, fun i a hi => ?_⟩
        simp only [Value.slice.injEq] at he
        obtain ⟨rfl, -, -⟩ := he
        rw [hdx, List.getElem?_take] at hi
        split at hi
        · exact h1.at i a hi
        · cases hi
      · exact h.old.oldBlock (.inl hq) (hg.block q (h.lt q hq) (fun e => hpq e.symm)) hg.size
  · have hgq : g = q := by have h9 : some g = some q := hp; exact Option.some.inj h9
    subst hgq
    rcases hway with h9 | h9
    · obtain ⟨np, cp, e1, rfl, hdx, hle⟩ := h.one g hq h9
      have hnp := (h.own.isK O).cap.1
      exact ⟨_, _, e1, rfl, by rw [hdx, List.take_append_of_le_length (by omega)], by omega⟩
    · have := h.lt g hq; omega
end Go.Proofs.YtalnbddkhojjbaaGreatDoor
namespace Go.Proofs.YtalnbddkhojjbaaGreatDoor
open Go.RowKit

end Go.Proofs.YtalnbddkhojjbaaGreatDoor
namespace Go.Proofs.YtalnbddkhojjbaaGreatDoor
open Go.ChangeShapes Go.WideShapes Go.ChangeAt Go.RowKit

theorem bytes5 : Tryz.prog.bytesOf 5 = 1 := by kernel_rfl
def dlen {H : Type} : DataW H → Nat | .slice e _ => e.length | _ => 0
set_option maxRecDepth 100000 in
theorem bytes_of_trod {H : Type} {enc : TypeId × Value → H} {w : World} {base : Nat} {spare : Nat → Bool} {held : Bool} {fuel : Nat} {cs : List Value} {x : DataW H × List MemPlace}
    (h : DataW.trod enc Tryz.prog w base spare held fuel 24 cs = some x) : ∃ (y : Option Addr) (c : Nat) (l : List UInt8), cs = [.slice y l.length c] ∧ IsB w (.slice y l.length c) l ∧ l.length ≤ c ∧ c ≤ maxLen ∧ l.length = dlen x.1 := by
  rcases open_ints Tryz.underlying24 Tryz.underlying5 cells5 h with ⟨rfl, rfl⟩ | ⟨a, len, cap, zs, rfl, _, hl, hm, hz, rfl, hcell, hwz⟩
  · exact ⟨none, 0, [], rfl, .inl ⟨rfl, rfl⟩, Nat.le_refl _, Nat.zero_le _, rfl⟩
  · have hlz : len ≤ zs.length := by rw [hz]; split <;> omega
    have hll : ((zs.take len).map fun n => UInt8.ofNat n.toNat).length = len := by simp; omega
    refine ⟨some a, cap, (zs.take len).map fun n => UInt8.ofNat n.toNat, by rw [hll], .inr ⟨a, cap, rfl, fun i hi => ?_⟩, by rw [hll]; exact hl, hm, by rw [hll]; simp [dlen, lits]; omega⟩
    have hi2 : i < len := by omega
    have hb := u8_bounds (hwz (zs[i]'(by omega)) (List.getElem_mem _))
    rw [hcell i (by omega)]
    have e1 : zs.getD i 0 = zs[i]'(by omega) := by simp [List.getD, List.getElem?_eq_getElem (show i < zs.length by omega)]
    rw [e1]
    simp only [List.getElem_map, List.getElem_take, UInt8.toNat_ofNat', Option.some.injEq, Value.int.injEq, true_and]
    omega
set_option maxRecDepth 100000 in
theorem open_bytes {H : Type} {enc : TypeId × Value → H} {w : World} {base b0 : Nat} {spare : Nat → Bool} {held : Bool} {r : Reach} {v : Value} {d : DataW H} {ps : List MemPlace}
    (hval : Value.okWide Tryz.prog w r b0 24 v) (hd : DataW.Trod enc Tryz.prog w base spare held 24 v d ps) :
    ∃ (y : Option Addr) (c : Nat) (l : List UInt8), v = .slice y l.length c ∧ IsB w (.slice y l.length c) l ∧ l.length ≤ c ∧ c ≤ maxLen ∧ l.length = dlen d := by
  obtain ⟨a, len, cap, rfl⟩ := okWide_slice Tryz.underlying24 hval
  obtain ⟨fuel, hf⟩ := hd
  obtain ⟨y, c, l, he, h1, h2, h3, h4⟩ := bytes_of_trod hf
  simp only [Value.cells, List.cons.injEq, and_true] at he
  exact ⟨y, c, l, he, h1, h2, h3, h4⟩
set_option maxRecDepth 100000 in
theorem bytes_sized {H : Type} {ds : List (DataW H)} {ts : List TypeId} {d : DataW H} {j : Nat} (h : (DataW.weightsEach Tryz.prog ts ds).all (fun x => decide (x ≤ reachBytes)) = true) (ht : ts[j]? = some 24) (hd : ds[j]? = some d) :
    dlen d ≤ 140737488351232 := by
  cases d with
  | slice el sp =>
    have := List.all_eq_true.1 h _ (DataW.weights_mem_each ht hd ((el.length + sp.length) * Tryz.prog.bytesOf 5) (by
      simp only [DataW.weights, Tryz.underlying24]
      simp))
    have h2 := of_decide_eq_true this
    rw [bytes5] at h2
    simp only [reachBytes] at h2
    simp only [dlen]
    omega
  | _ => simp [dlen]
end Go.Proofs.YtalnbddkhojjbaaGreatDoor
