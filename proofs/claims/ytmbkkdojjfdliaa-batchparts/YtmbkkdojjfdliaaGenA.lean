
import Derived.Test.YtmbkkdojjfdliaaApp
import Derived.Laws.OwnMore
namespace Go.Proofs.Ytmbkkdojjfdliaa
open Go.RowKit

/-! Slices whose elements are one cell each, whatever their type. -/
/-- What is known of a type of slices. -/
structure Elt (t e : TypeId) (bytes : Nat) : Prop where
  ht : Try.prog.underlying t = some (.slice e)
  info : ∃ i z, Try.prog.info? e = some i ∧ i.zero = some z ∧ i.size = 1 ∧ i.bytes = bytes ∧ z.cells.size = 1
def IsG (w : World) (v : Value) (xs : List Value) : Prop :=
  (v = .slice none 0 0 ∧ xs = []) ∨ ∃ x c, v = .slice (some x) xs.length c ∧ ∀ i (h : i < xs.length), w.cell? (x.add i) = some xs[i]
theorem IsG.len {w : World} {v : Value} {xs : List Value} (h : IsG w v xs) : ∃ x c, v = .slice x xs.length c := by
  rcases h with ⟨rfl, rfl⟩ | ⟨x, c, rfl, _⟩
  · exact ⟨none, 0, rfl⟩
  · exact ⟨some x, c, rfl⟩
theorem IsG.kept {w w1 : World} {v : Value} {xs : List Value} (h : IsG w v xs) (hb : Below w.heap.size w w1) : IsG w1 v xs := by
  rcases h with h | ⟨x, c, rfl, hc⟩
  · exact .inl h
  · exact .inr ⟨x, c, rfl, fun i hi => by rw [hb.cell (World.block_lt_of_cell? w _ (hc i hi))]; exact hc i hi⟩
theorem IsG.spot {w : World} {x : Option Addr} {n c : Nat} {xs : List Value} (hv : IsG w (.slice x n c) xs) (k : Nat) (hk : k < xs.length) :
    ∃ b o, x = some ⟨b, o, none⟩ ∧ b < w.heap.size ∧ ∀ j u, xs[j]? = some u → w.cell? ⟨b, o + j, none⟩ = some u := by
  rcases hv with ⟨_, rfl⟩ | ⟨y, d, he, hc⟩
  · simp at hk
  · simp only [Value.slice.injEq] at he
    obtain ⟨rfl, _, rfl⟩ := he
    obtain ⟨b, o, sp⟩ := y
    have hsp : sp = none := by simpa [Addr.add] using World.cell?_spot (hc 0 (by omega))
    subst hsp
    have hlt := World.block_lt_of_cell? w _ (hc k hk)
    rw [addr_add] at hlt
    refine ⟨b, o, rfl, hlt, fun j u hj => ?_⟩
    have hj' := (List.getElem?_eq_some_iff.1 hj).1
    have := hc j hj'
    rw [addr_add] at this
    rw [this, ← hj, List.getElem?_eq_getElem hj']
def OwnG (e : TypeId) (w : World) (base : Nat) (v : Value) (xs : List Value) : Prop := w.ownsRow base e 1 v xs.length xs
theorem OwnG.nil (e : TypeId) (w : World) (base : Nat) : OwnG e w base (.slice none 0 0) [] := World.ownsRow_nil w base e 1
theorem OwnG.lt {e : TypeId} {w : World} {base : Nat} {v : Value} {xs : List Value} (h : OwnG e w base v xs) : ∀ k, v.ownBlock = some k → base ≤ k ∧ k < w.heap.size := World.ownsRow.lt h
theorem OwnG.form {e : TypeId} {w : World} {base : Nat} {v : Value} {xs : List Value} (h : OwnG e w base v xs) (h0 : xs ≠ []) : ∃ g c, v = .slice (some ⟨g, 0, none⟩) xs.length c ∧ base ≤ g ∧ g < w.heap.size ∧ xs.length ≤ c ∧ c ≤ maxLen := by
  have h' := h
  obtain ⟨_, ⟨rfl, hn⟩ | ⟨g, cap, cur, rfl, hb, hg, hle, hm, hs, ht⟩⟩ := h
  · exact absurd (List.eq_nil_of_length_eq_zero hn) h0
  · exact ⟨g, cap, rfl, hb, (OwnG.lt h' g rfl).2, hle, hm⟩
theorem OwnG.cell {e : TypeId} {w : World} {base g n c : Nat} {xs : List Value} (h : OwnG e w base (.slice (some ⟨g, 0, none⟩) n c) xs) (j : Nat) (u : Value) (hj : xs[j]? = some u) : w.cell? ⟨g, j, none⟩ = some u := by
  have := World.ownsRow.cells h (g := g) rfl j u hj
  rw [addr_add, Nat.zero_add] at this
  exact this
theorem OwnG.frozen {e : TypeId} {w : World} {base g n c : Nat} {xs : List Value} (h : OwnG e w base (.slice (some ⟨g, 0, none⟩) n c) xs) (j : Nat) : w.frozen? ⟨g, j, none⟩ = false := by
  obtain ⟨_, ⟨h0, _⟩ | ⟨g', cap, cur, he, hb, hg, hle, hm, hs, ht⟩⟩ := h
  · cases h0
  · simp only [Value.slice.injEq, Option.some.injEq, Addr.mk.injEq, and_true] at he
    obtain ⟨rfl, _, rfl⟩ := he
    exact frozen_of_row w g j cur _ hg
theorem OwnG.isG {e : TypeId} {w : World} {base : Nat} {v : Value} {xs : List Value} (h : OwnG e w base v xs) : IsG w v xs := by
  have h' := h
  obtain ⟨_, ⟨rfl, hn⟩ | ⟨g, cap, cur, rfl, hb, hg, hle, hm, hs, ht⟩⟩ := h
  · exact .inl ⟨rfl, List.eq_nil_of_length_eq_zero hn⟩
  · exact .inr ⟨_, cap, rfl, fun i hi => by rw [addr_add, Nat.zero_add]; exact OwnG.cell h' i _ (List.getElem?_eq_getElem hi)⟩
theorem OwnG.grown {e : TypeId} {w w' : World} {base : Nat} {v : Value} {xs : List Value} {row : Option Nat} (h : OwnG e w base v xs) (hg : w.grownBy w' row) (hne : v.ownBlock = none ∨ v.ownBlock ≠ row) : OwnG e w' base v xs := World.ownsRow.kept h hg hne
theorem OwnG.keep {e : TypeId} {w w' : World} {base : Nat} {v : Value} {xs : List Value} (h : OwnG e w base v xs) (hb : Below w.heap.size w w') : OwnG e w' base v xs :=
  World.ownsRow.kept h (row := none) ⟨hb.os, hb.tape, hb.output, hb.size, fun k hk _ => hb.block k hk⟩ (by
    rcases h.2 with ⟨rfl, _⟩ | ⟨g, cap, cur, rfl, _⟩
    · exact .inl rfl
    · exact .inr (by simp [Value.ownBlock]))
theorem OwnG.below {e : TypeId} {w w' : World} {base : Nat} {v : Value} {xs : List Value} (h : OwnG e w base v xs) (hg : w.grownBy w' v.ownBlock) (hb : base ≤ w.heap.size) : Below base w w' :=
  ⟨hg.os, hg.tape, hg.output, hg.size, fun k hk => hg.block k (by omega) (fun q => by have := h.lt k q.symm; omega)⟩
/-- A row that a literal makes. -/
theorem OwnG.lit (e : TypeId) (w : World) (xs : List Value) (hm : xs.length ≤ maxLen) : OwnG e (w.alloc (.cells xs.toArray e)) w.heap.size (.slice (some ⟨w.heap.size, 0, none⟩) xs.length xs.length) xs :=
  ⟨by simp, .inr ⟨w.heap.size, xs.length, xs.toArray, rfl, Nat.le_refl _, heap_alloc_last w _, Nat.le_refl _, hm, by simp, by simp⟩⟩
theorem OwnG.le {e : TypeId} {w : World} {base base' : Nat} {v : Value} {xs : List Value} (h : OwnG e w base v xs) (hb : base' ≤ base) : OwnG e w base' v xs :=
  ⟨h.1, h.2.elim .inl fun ⟨g, cap, cur, hv, hg, r⟩ => .inr ⟨g, cap, cur, hv, Nat.le_trans hb hg, r⟩⟩
theorem OwnG.num {e : TypeId} {w : World} {base : Nat} {x : Option Addr} {n c : Nat} {xs : List Value} (h : OwnG e w base (.slice x n c) xs) : n = xs.length := by
  obtain ⟨_, ⟨he, hn⟩ | ⟨g, cap, cur, he, _⟩⟩ := h
  · simp only [Value.slice.injEq] at he; omega
  · simp only [Value.slice.injEq] at he; exact he.2.1
/-- A store into it. -/
theorem OwnG.put {e : TypeId} {w : World} {base g n c : Nat} {xs : List Value} (h : OwnG e w base (.slice (some ⟨g, 0, none⟩) n c) xs) (j : Nat) (u : Value) : OwnG e (w.setCell ⟨g, j, none⟩ u) base (.slice (some ⟨g, 0, none⟩) n c) (xs.set j u) ∧ w.grownBy (w.setCell ⟨g, j, none⟩ u) (some g) := by
  have hn := h.num
  subst hn
  have := World.ownsRow.stored h j u
  unfold OwnG
  rw [List.length_set]
  exact this
variable {t e : TypeId} {bytes : Nat}
/-- append(v, x..) of values that lie at an address. -/
theorem run_appG (E : Elt t e bytes) (w : World) (base : Nat) (v : Value) (xs news : List Value) (ad : Addr) (c : Nat) (ty : TypeId) (h : OwnG e w base v xs) (hnews : ∀ j u, news[j]? = some u → w.cell? (ad.add j) = some u) (h1 : ∀ u ∈ news, u.oneCell' = true) (hn : news ≠ []) (hl : (xs.length + news.length) * bytes ≤ 140737488355328) (h63 : xs.length + news.length ≤ maxLen) (hb : base ≤ w.heap.size) :
    ∃ v' w', (Builtin.append_ #[t, t] ty #[v, .slice (some ad) news.length c]).run Try.prog w = .ok v' w' ∧ OwnG e w' base v' (xs ++ news) ∧ w.grownBy w' v.ownBlock ∧ Below base w w' := by
  obtain ⟨i, z, hi, hz, hs, hby, hzs⟩ := E.info
  obtain ⟨g, cap, w', hr, h2, h3, h4, h5⟩ := run_append_lies (P := Try.prog) w t ty base e i z 1 bytes E.ht hi hz hs hby hzs (by omega) v xs.length xs h ad news.length c news (by simp) hnews h1 (List.length_pos_iff.2 hn) h63 hl hb _ rfl
  refine ⟨_, w', hr, ?_, h3, OwnG.below h h3 hb⟩
  unfold OwnG
  rw [List.length_append]
  exact h2
theorem run_app1G (E : Elt t e bytes) (w : World) (base y c : Nat) (v : Value) (xs : List Value) (u : Value) (ty : TypeId) (h : OwnG e w base v xs) (hy : w.cell? ⟨y, 0, none⟩ = some u) (hu : u.oneCell' = true) (hl : (xs.length + 1) * bytes ≤ 140737488355328) (h63 : xs.length + 1 ≤ maxLen) (hb : base ≤ w.heap.size) :
    ∃ v' w', (Builtin.append_ #[t, t] ty #[v, .slice (some ⟨y, 0, none⟩) 1 c]).run Try.prog w = .ok v' w' ∧ OwnG e w' base v' (xs ++ [u]) ∧ w.grownBy w' v.ownBlock ∧ Below base w w' :=
  run_appG E w base v xs [u] ⟨y, 0, none⟩ c ty h (fun j z hz => by
    rcases j with _ | j
    · simp at hz; subst hz; rw [addr_add]; exact hy
    · simp at hz) (by simpa using hu) (by simp) (by simpa using hl) (by simpa using h63) hb
theorem wpL_appG {ops : Array Oper} {rest : List Oper} {o : Oper} {a : Act} {w : World} {Q : Exit → Act → World → Prop} (t : TypeId) (hgd : o.guard = none) (s x : Operand)
    (ho : o.op = .call { callee := .builtin .append, args := #[s, x], argTypes := #[t, t] }) (v' : Value) (w' : World) (hr : (Builtin.append_ #[t, t] o.type #[a.eval s, a.eval x]).run Try.prog w = .ok v' w')
    (h : wpList Try.prog ops Q rest (a.put o.dst v') w') : wpList Try.prog ops Q (o :: rest) a w :=
  wpList_plain hgd fun _ hK => by
    unfold Oper.wp execOp
    simp only [ho, resolve, invoke, builtin, Sem.run_bind, Sem.run_pure, Result.andThen_ok, List.map_toArray, List.map_cons, List.map_nil, hr]
    exact hK _ _ h
end Go.Proofs.Ytmbkkdojjfdliaa
