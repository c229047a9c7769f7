import Derived.Test.YtadnfiikfhdphaaQGdc
namespace Go.Proofs.Ytadnfiikfhdphaa
open Go.RowKit

/-! Two lists more for the book: what holds from call to call -/
/-- The slice that holds both. -/
def FS5 (B : Nat) (A : List Nat) (T0 : Nat → Option Th) (ps : List Pr5) (b : Bk) (bc : Array Value) (n : Nat) (L : List Sc) (v : Value) (x : World) : Prop :=
  ∃ s t T y, v = .slice (some ⟨y, 0, none⟩) 2 2 ∧ x.cell? ⟨y, 0, none⟩ = some (Slc.v s) ∧ x.cell? ⟨y, 1, none⟩ = some (Slc.v t) ∧ L.length = s.n ∧ L.length = t.n ∧ T (8 * n + 3) = some (thK secE B s.v L) ∧ T (8 * (n + 1) + 3) = some (thK secE B t.v L) ∧ G5 x B T ps b bc ∧ Rws T A ∧ Stc T0 T
theorem FS5_later {B : Nat} {A : List Nat} {T0 : Nat → Option Th} {ps : List Pr5} {b : Bk} {bc : Array Value} {n : Nat} {L : List Sc} {v : Value} {w w' : World} (h : FS5 B A T0 ps b bc n L v w) (hb : Below w.heap.size w w') : FS5 B A T0 ps b bc n L v w' := by
  obtain ⟨s, t, T, y, e, c0, c1, l1, l2, h1, h2, h3, h4⟩ := h
  exact ⟨s, t, T, y, e, cell_later hb c0, cell_later hb c1, l1, l2, h1, h2, h3.later hb, h4⟩
def IS5 (B : Nat) (A : List Nat) (T0 : Nat → Option Th) (ps : List Pr5) (b : Bk) (bc : Array Value) (n : Nat) (L : List Sc) : List Value → World → Prop
  | [], w => At5 B A T0 ps b bc w
  | [a], w => ∃ s T, a = Slc.v s ∧ L.length = s.n ∧ T (8 * n + 3) = some (thK secE B s.v L) ∧ G5 w B T ps b bc ∧ Rws T A ∧ Stc T0 T
  | [a, c], w => ∃ s t T, a = Slc.v s ∧ c = Slc.v t ∧ L.length = s.n ∧ L.length = t.n ∧ T (8 * n + 3) = some (thK secE B s.v L) ∧ T (8 * (n + 1) + 3) = some (thK secE B t.v L) ∧ G5 w B T ps b bc ∧ Rws T A ∧ Stc T0 T
  | [_, _, d], w => FS5 B A T0 ps b bc n L d w
  | [_, _, _, d], w => ∃ s t g cc, d = .slice (some ⟨g, 0, none⟩) (n + 2) cc ∧ At5 B A T0 ps { b with S := ⟨some ⟨g, 0, none⟩, n + 2, cc⟩, sS := b.sS ++ [(s, L), (t, L)] } bc w
  | _, _ => False
theorem IS5_later {B : Nat} {A : List Nat} {T0 : Nat → Option Th} {ps : List Pr5} {b : Bk} {bc : Array Value} {n : Nat} {L : List Sc} : ∀ vs w w', IS5 B A T0 ps b bc n L vs w → Below w.heap.size w w' → IS5 B A T0 ps b bc n L vs w'
  | [], _, _, h, hb => h.later hb
  | [_], _, _, ⟨s, T, e, l, h1, h2, h3⟩, hb => ⟨s, T, e, l, h1, h2.later hb, h3⟩
  | [_, _], _, _, ⟨s, t, T, e1, e2, l1, l2, h1, h2, h3, h4⟩, hb => ⟨s, t, T, e1, e2, l1, l2, h1, h2, h3.later hb, h4⟩
  | [_, _, _], _, _, h, hb => FS5_later h hb
  | [_, _, _, _], _, _, ⟨s, t, g, cc, e1, h⟩, hb => ⟨s, t, g, cc, e1, h.later hb⟩
  | _ :: _ :: _ :: _ :: _ :: _, _, _, h, _ => h.elim
theorem IS5.first {B : Nat} {A : List Nat} {T0 : Nat → Option Th} {ps : List Pr5} {b : Bk} {bc : Array Value} {n : Nat} {L : List Sc} {x x' : World} {y : Option Addr} {m c : Nat} (h : At5 B A T0 ps b bc x) (hn : b.sS.length = n) (hL : L.length = m) (hb : Below x.heap.size x x') (hO : OwnK secE x' x.heap.size (.slice y m c) L) : IS5 B A T0 ps b bc n L [.slice y m c] x' := by
  obtain ⟨T, h1, h2, h3⟩ := h
  exact ⟨⟨y, m, c⟩, _, rfl, hL, updT_same _ _ _, h1.newS (by omega) hb hO, h2.upd (by omega), h3.trans (Stc.upd (by omega))⟩
theorem IS5.second {B : Nat} {A : List Nat} {T0 : Nat → Option Th} {ps : List Pr5} {b : Bk} {bc : Array Value} {n : Nat} {L : List Sc} {x x' : World} {a : Value} {y : Option Addr} {m c : Nat} (h : IS5 B A T0 ps b bc n L [a] x) (hn : b.sS.length = n) (hL : L.length = m) (hb : Below x.heap.size x x') (hO : OwnK secE x' x.heap.size (.slice y m c) L) : IS5 B A T0 ps b bc n L [a, .slice y m c] x' := by
  obtain ⟨s, T, e, l, h0, h1, h2, h3⟩ := h
  exact ⟨s, ⟨y, m, c⟩, _, e, rfl, l, hL, by rw [updT_ne _ _ _ _ (by omega)]; exact h0, updT_same _ _ _, h1.newS (by omega) hb hO, h2.upd (by omega), h3.trans (Stc.upd (by omega))⟩
theorem IS5.build {B : Nat} {A : List Nat} {T0 : Nat → Option Th} {ps : List Pr5} {b : Bk} {bc : Array Value} {n : Nat} {L : List Sc} {x : World} {a c : Value} {ty : TypeId} (h : IS5 B A T0 ps b bc n L [a, c] x) : FS5 B A T0 ps b bc n L (.slice (some ⟨x.heap.size, 0, none⟩) 2 2) (x.alloc (.cells #[a, c] ty)) := by
  obtain ⟨s, t, T, rfl, rfl, l1, l2, h1, h2, h3, h4⟩ := h
  exact ⟨s, t, T, x.heap.size, rfl, cell_of_row _ _ 0 _ _ _ (heap_alloc_last x _), cell_of_row _ _ 1 _ _ _ (heap_alloc_last x _), l1, l2, h1, h2, h3.later (below_alloc _ _), h4⟩
theorem FS5.app {B : Nat} {A : List Nat} {T0 : Nat → Option Th} {ps : List Pr5} {b : Bk} {bc : Array Value} {n : Nat} {L : List Sc} {x : World} {v : Value} {ty : TypeId} (h : FS5 B A T0 ps b bc n L v x) (hn : b.sS.length = n) (hn4 : n ≤ 16777216) :
    ∃ g cc w', (Builtin.append_ #[40, 40] ty #[b.S.v, v]).run Try.prog x = .ok (.slice (some ⟨g, 0, none⟩) (n + 2) cc) w' ∧ (∀ a c d, IS5 B A T0 ps b bc n L [a, c, d, .slice (some ⟨g, 0, none⟩) (n + 2) cc] w') ∧ KA B A x w' := by
  obtain ⟨s, t, T, y, rfl, c0, c1, l1, l2, h1, h2, h3, h4, h5⟩ := h
  have hO := h3.ga.isG h3.S
  have hF := h3.nS.1
  rw [hn] at hF
  obtain ⟨⟨yv, nv, cv⟩, hS⟩ : ∃ q, b.S = q := ⟨_, rfl⟩
  rw [hS] at hO hF
  simp only at hF
  subst hF
  obtain ⟨g, cc, w', hr, hO', hK, hg⟩ := appLies eltS x B yv nv cv (b.sS.map sVal) [s.v, t.v] y 2 ty hO (by rw [List.length_map]; exact hn) rfl (fun j u hu => by
    rcases j with _ | _ | j
    · simp at hu; subst hu; exact c0
    · simp at hu; subst hu; exact c1
    · simp at hu) (fun u hu => by simp at hu; rcases hu with rfl | rfl <;> rfl) (by omega) h3.ga.size (by omega) (by unfold maxLen; omega)
  obtain ⟨T', g1, g2, g3⟩ := h3.appS hn h1 h2 l1 l2 (g := g) (c := cc) (by rw [hS]; exact hK) hO' (by rw [hS]; exact hg)
  exact ⟨g, cc, w', by rw [hS]; exact hr, fun a c d => ⟨s, t, g, cc, rfl, T', g1, (g2 A h4).2, h5.trans g3⟩, (g2 A h4).1⟩
/-- The slice that holds both. -/
def FW5 (B : Nat) (A : List Nat) (T0 : Nat → Option Th) (ps : List Pr5) (b : Bk) (bc : Array Value) (n : Nat) (L : List Sc) (v : Value) (x : World) : Prop :=
  ∃ s t T y, v = .slice (some ⟨y, 0, none⟩) 2 2 ∧ x.cell? ⟨y, 0, none⟩ = some (Slc.v s) ∧ x.cell? ⟨y, 1, none⟩ = some (Slc.v t) ∧ L.length = s.n ∧ L.length = t.n ∧ T (8 * n + 5) = some (thKr secE B s.v L) ∧ T (8 * (n + 1) + 5) = some (thKr secE B t.v L) ∧ G5 x B T ps b bc ∧ Rws T A ∧ Stc T0 T
theorem FW5_later {B : Nat} {A : List Nat} {T0 : Nat → Option Th} {ps : List Pr5} {b : Bk} {bc : Array Value} {n : Nat} {L : List Sc} {v : Value} {w w' : World} (h : FW5 B A T0 ps b bc n L v w) (hb : Below w.heap.size w w') : FW5 B A T0 ps b bc n L v w' := by
  obtain ⟨s, t, T, y, e, c0, c1, l1, l2, h1, h2, h3, h4⟩ := h
  exact ⟨s, t, T, y, e, cell_later hb c0, cell_later hb c1, l1, l2, h1, h2, h3.later hb, h4⟩
def IW5 (B : Nat) (A : List Nat) (T0 : Nat → Option Th) (ps : List Pr5) (b : Bk) (bc : Array Value) (n : Nat) (L : List Sc) : List Value → World → Prop
  | [], w => At5 B A T0 ps b bc w
  | [a], w => ∃ s T, a = Slc.v s ∧ L.length = s.n ∧ T (8 * n + 5) = some (thKr secE B s.v L) ∧ G5 w B T ps b bc ∧ Rws T A ∧ Stc T0 T
  | [a, c], w => ∃ s t T, a = Slc.v s ∧ c = Slc.v t ∧ L.length = s.n ∧ L.length = t.n ∧ T (8 * n + 5) = some (thKr secE B s.v L) ∧ T (8 * (n + 1) + 5) = some (thKr secE B t.v L) ∧ G5 w B T ps b bc ∧ Rws T A ∧ Stc T0 T
  | [_, _, d], w => FW5 B A T0 ps b bc n L d w
  | [_, _, _, d], w => ∃ s t g cc, d = .slice (some ⟨g, 0, none⟩) (n + 2) cc ∧ At5 B A T0 ps { b with WS := ⟨some ⟨g, 0, none⟩, n + 2, cc⟩, sW := b.sW ++ [(s, L), (t, L)] } bc w
  | _, _ => False
theorem IW5_later {B : Nat} {A : List Nat} {T0 : Nat → Option Th} {ps : List Pr5} {b : Bk} {bc : Array Value} {n : Nat} {L : List Sc} : ∀ vs w w', IW5 B A T0 ps b bc n L vs w → Below w.heap.size w w' → IW5 B A T0 ps b bc n L vs w'
  | [], _, _, h, hb => h.later hb
  | [_], _, _, ⟨s, T, e, l, h1, h2, h3⟩, hb => ⟨s, T, e, l, h1, h2.later hb, h3⟩
  | [_, _], _, _, ⟨s, t, T, e1, e2, l1, l2, h1, h2, h3, h4⟩, hb => ⟨s, t, T, e1, e2, l1, l2, h1, h2, h3.later hb, h4⟩
  | [_, _, _], _, _, h, hb => FW5_later h hb
  | [_, _, _, _], _, _, ⟨s, t, g, cc, e1, h⟩, hb => ⟨s, t, g, cc, e1, h.later hb⟩
  | _ :: _ :: _ :: _ :: _ :: _, _, _, h, _ => h.elim
theorem IW5.first {B : Nat} {A : List Nat} {T0 : Nat → Option Th} {ps : List Pr5} {b : Bk} {bc : Array Value} {n : Nat} {L : List Sc} {x x' : World} {y : Option Addr} {m c : Nat} (h : At5 B A T0 ps b bc x) (hn : b.sW.length = n) (hL : L.length = m) (hb : Below x.heap.size x x') (hO : OwnK secE x' x.heap.size (.slice y m c) L) : IW5 B A T0 ps b bc n L [.slice y m c] x' := by
  obtain ⟨T, h1, h2, h3⟩ := h
  exact ⟨⟨y, m, c⟩, _, rfl, hL, updT_same _ _ _, h1.newW (by omega) hb hO, h2.upd (by omega), h3.trans (Stc.upd (by omega))⟩
theorem IW5.second {B : Nat} {A : List Nat} {T0 : Nat → Option Th} {ps : List Pr5} {b : Bk} {bc : Array Value} {n : Nat} {L : List Sc} {x x' : World} {a : Value} {y : Option Addr} {m c : Nat} (h : IW5 B A T0 ps b bc n L [a] x) (hn : b.sW.length = n) (hL : L.length = m) (hb : Below x.heap.size x x') (hO : OwnK secE x' x.heap.size (.slice y m c) L) : IW5 B A T0 ps b bc n L [a, .slice y m c] x' := by
  obtain ⟨s, T, e, l, h0, h1, h2, h3⟩ := h
  exact ⟨s, ⟨y, m, c⟩, _, e, rfl, l, hL, by rw [updT_ne _ _ _ _ (by omega)]; exact h0, updT_same _ _ _, h1.newW (by omega) hb hO, h2.upd (by omega), h3.trans (Stc.upd (by omega))⟩
theorem IW5.build {B : Nat} {A : List Nat} {T0 : Nat → Option Th} {ps : List Pr5} {b : Bk} {bc : Array Value} {n : Nat} {L : List Sc} {x : World} {a c : Value} {ty : TypeId} (h : IW5 B A T0 ps b bc n L [a, c] x) : FW5 B A T0 ps b bc n L (.slice (some ⟨x.heap.size, 0, none⟩) 2 2) (x.alloc (.cells #[a, c] ty)) := by
  obtain ⟨s, t, T, rfl, rfl, l1, l2, h1, h2, h3, h4⟩ := h
  exact ⟨s, t, T, x.heap.size, rfl, cell_of_row _ _ 0 _ _ _ (heap_alloc_last x _), cell_of_row _ _ 1 _ _ _ (heap_alloc_last x _), l1, l2, h1, h2, h3.later (below_alloc _ _), h4⟩
theorem FW5.app {B : Nat} {A : List Nat} {T0 : Nat → Option Th} {ps : List Pr5} {b : Bk} {bc : Array Value} {n : Nat} {L : List Sc} {x : World} {v : Value} {ty : TypeId} (h : FW5 B A T0 ps b bc n L v x) (hn : b.sW.length = n) (hn4 : n ≤ 16777216) :
    ∃ g cc w', (Builtin.append_ #[40, 40] ty #[b.WS.v, v]).run Try.prog x = .ok (.slice (some ⟨g, 0, none⟩) (n + 2) cc) w' ∧ (∀ a c d, IW5 B A T0 ps b bc n L [a, c, d, .slice (some ⟨g, 0, none⟩) (n + 2) cc] w') ∧ KA B A x w' := by
  obtain ⟨s, t, T, y, rfl, c0, c1, l1, l2, h1, h2, h3, h4, h5⟩ := h
  have hO := h3.ga.isG h3.WS
  have hF := h3.nW.1
  rw [hn] at hF
  obtain ⟨⟨yv, nv, cv⟩, hS⟩ : ∃ q, b.WS = q := ⟨_, rfl⟩
  rw [hS] at hO hF
  simp only at hF
  subst hF
  obtain ⟨g, cc, w', hr, hO', hK, hg⟩ := appLies eltS x B yv nv cv (b.sW.map sVal) [s.v, t.v] y 2 ty hO (by rw [List.length_map]; exact hn) rfl (fun j u hu => by
    rcases j with _ | _ | j
    · simp at hu; subst hu; exact c0
    · simp at hu; subst hu; exact c1
    · simp at hu) (fun u hu => by simp at hu; rcases hu with rfl | rfl <;> rfl) (by omega) h3.ga.size (by omega) (by unfold maxLen; omega)
  obtain ⟨T', g1, g2, g3⟩ := h3.appW hn h1 h2 l1 l2 (g := g) (c := cc) (by rw [hS]; exact hK) hO' (by rw [hS]; exact hg)
  exact ⟨g, cc, w', by rw [hS]; exact hr, fun a c d => ⟨s, t, g, cc, rfl, T', g1, (g2 A h4).2, h5.trans g3⟩, (g2 A h4).1⟩
/-- The slice that holds both. -/
def FP5 (B : Nat) (A : List Nat) (T0 : Nat → Option Th) (ps : List Pr5) (b : Bk) (bc : Array Value) (n : Nat) (L : List Wr) (v : Value) (x : World) : Prop :=
  ∃ s t T y, v = .slice (some ⟨y, 0, none⟩) 2 2 ∧ x.cell? ⟨y, 0, none⟩ = some (Slc.v s) ∧ x.cell? ⟨y, 1, none⟩ = some (Slc.v t) ∧ L.length = s.n ∧ L.length = t.n ∧ T (8 * n + 4) = some (thK wrE B s.v L) ∧ T (8 * (n + 1) + 4) = some (thK wrE B t.v L) ∧ G5 x B T ps b bc ∧ Rws T A ∧ Stc T0 T
theorem FP5_later {B : Nat} {A : List Nat} {T0 : Nat → Option Th} {ps : List Pr5} {b : Bk} {bc : Array Value} {n : Nat} {L : List Wr} {v : Value} {w w' : World} (h : FP5 B A T0 ps b bc n L v w) (hb : Below w.heap.size w w') : FP5 B A T0 ps b bc n L v w' := by
  obtain ⟨s, t, T, y, e, c0, c1, l1, l2, h1, h2, h3, h4⟩ := h
  exact ⟨s, t, T, y, e, cell_later hb c0, cell_later hb c1, l1, l2, h1, h2, h3.later hb, h4⟩
def IP5 (B : Nat) (A : List Nat) (T0 : Nat → Option Th) (ps : List Pr5) (b : Bk) (bc : Array Value) (n : Nat) (L : List Wr) : List Value → World → Prop
  | [], w => At5 B A T0 ps b bc w
  | [a], w => ∃ s T, a = Slc.v s ∧ L.length = s.n ∧ T (8 * n + 4) = some (thK wrE B s.v L) ∧ G5 w B T ps b bc ∧ Rws T A ∧ Stc T0 T
  | [a, c], w => ∃ s t T, a = Slc.v s ∧ c = Slc.v t ∧ L.length = s.n ∧ L.length = t.n ∧ T (8 * n + 4) = some (thK wrE B s.v L) ∧ T (8 * (n + 1) + 4) = some (thK wrE B t.v L) ∧ G5 w B T ps b bc ∧ Rws T A ∧ Stc T0 T
  | [_, _, d], w => FP5 B A T0 ps b bc n L d w
  | [_, _, _, d], w => ∃ s t g cc, d = .slice (some ⟨g, 0, none⟩) (n + 2) cc ∧ At5 B A T0 ps { b with P := ⟨some ⟨g, 0, none⟩, n + 2, cc⟩, sP := b.sP ++ [(s, L), (t, L)] } bc w
  | _, _ => False
theorem IP5_later {B : Nat} {A : List Nat} {T0 : Nat → Option Th} {ps : List Pr5} {b : Bk} {bc : Array Value} {n : Nat} {L : List Wr} : ∀ vs w w', IP5 B A T0 ps b bc n L vs w → Below w.heap.size w w' → IP5 B A T0 ps b bc n L vs w'
  | [], _, _, h, hb => h.later hb
  | [_], _, _, ⟨s, T, e, l, h1, h2, h3⟩, hb => ⟨s, T, e, l, h1, h2.later hb, h3⟩
  | [_, _], _, _, ⟨s, t, T, e1, e2, l1, l2, h1, h2, h3, h4⟩, hb => ⟨s, t, T, e1, e2, l1, l2, h1, h2, h3.later hb, h4⟩
  | [_, _, _], _, _, h, hb => FP5_later h hb
  | [_, _, _, _], _, _, ⟨s, t, g, cc, e1, h⟩, hb => ⟨s, t, g, cc, e1, h.later hb⟩
  | _ :: _ :: _ :: _ :: _ :: _, _, _, h, _ => h.elim
theorem IP5.first {B : Nat} {A : List Nat} {T0 : Nat → Option Th} {ps : List Pr5} {b : Bk} {bc : Array Value} {n : Nat} {L : List Wr} {x x' : World} {y : Option Addr} {m c : Nat} (h : At5 B A T0 ps b bc x) (hn : b.sP.length = n) (hL : L.length = m) (hb : Below x.heap.size x x') (hO : OwnK wrE x' x.heap.size (.slice y m c) L) : IP5 B A T0 ps b bc n L [.slice y m c] x' := by
  obtain ⟨T, h1, h2, h3⟩ := h
  exact ⟨⟨y, m, c⟩, _, rfl, hL, updT_same _ _ _, h1.newP (by omega) hb hO, h2.upd (by omega), h3.trans (Stc.upd (by omega))⟩
theorem IP5.second {B : Nat} {A : List Nat} {T0 : Nat → Option Th} {ps : List Pr5} {b : Bk} {bc : Array Value} {n : Nat} {L : List Wr} {x x' : World} {a : Value} {y : Option Addr} {m c : Nat} (h : IP5 B A T0 ps b bc n L [a] x) (hn : b.sP.length = n) (hL : L.length = m) (hb : Below x.heap.size x x') (hO : OwnK wrE x' x.heap.size (.slice y m c) L) : IP5 B A T0 ps b bc n L [a, .slice y m c] x' := by
  obtain ⟨s, T, e, l, h0, h1, h2, h3⟩ := h
  exact ⟨s, ⟨y, m, c⟩, _, e, rfl, l, hL, by rw [updT_ne _ _ _ _ (by omega)]; exact h0, updT_same _ _ _, h1.newP (by omega) hb hO, h2.upd (by omega), h3.trans (Stc.upd (by omega))⟩
theorem IP5.build {B : Nat} {A : List Nat} {T0 : Nat → Option Th} {ps : List Pr5} {b : Bk} {bc : Array Value} {n : Nat} {L : List Wr} {x : World} {a c : Value} {ty : TypeId} (h : IP5 B A T0 ps b bc n L [a, c] x) : FP5 B A T0 ps b bc n L (.slice (some ⟨x.heap.size, 0, none⟩) 2 2) (x.alloc (.cells #[a, c] ty)) := by
  obtain ⟨s, t, T, rfl, rfl, l1, l2, h1, h2, h3, h4⟩ := h
  exact ⟨s, t, T, x.heap.size, rfl, cell_of_row _ _ 0 _ _ _ (heap_alloc_last x _), cell_of_row _ _ 1 _ _ _ (heap_alloc_last x _), l1, l2, h1, h2, h3.later (below_alloc _ _), h4⟩
theorem FP5.app {B : Nat} {A : List Nat} {T0 : Nat → Option Th} {ps : List Pr5} {b : Bk} {bc : Array Value} {n : Nat} {L : List Wr} {x : World} {v : Value} {ty : TypeId} (h : FP5 B A T0 ps b bc n L v x) (hn : b.sP.length = n) (hn4 : n ≤ 16777216) :
    ∃ g cc w', (Builtin.append_ #[41, 41] ty #[b.P.v, v]).run Try.prog x = .ok (.slice (some ⟨g, 0, none⟩) (n + 2) cc) w' ∧ (∀ a c d, IP5 B A T0 ps b bc n L [a, c, d, .slice (some ⟨g, 0, none⟩) (n + 2) cc] w') ∧ KA B A x w' := by
  obtain ⟨s, t, T, y, rfl, c0, c1, l1, l2, h1, h2, h3, h4, h5⟩ := h
  have hO := h3.ga.isG h3.P
  have hF := h3.nP.1
  rw [hn] at hF
  obtain ⟨⟨yv, nv, cv⟩, hS⟩ : ∃ q, b.P = q := ⟨_, rfl⟩
  rw [hS] at hO hF
  simp only at hF
  subst hF
  obtain ⟨g, cc, w', hr, hO', hK, hg⟩ := appLies eltW x B yv nv cv (b.sP.map sVal) [s.v, t.v] y 2 ty hO (by rw [List.length_map]; exact hn) rfl (fun j u hu => by
    rcases j with _ | _ | j
    · simp at hu; subst hu; exact c0
    · simp at hu; subst hu; exact c1
    · simp at hu) (fun u hu => by simp at hu; rcases hu with rfl | rfl <;> rfl) (by omega) h3.ga.size (by omega) (by unfold maxLen; omega)
  obtain ⟨T', g1, g2, g3⟩ := h3.appP hn h1 h2 l1 l2 (g := g) (c := cc) (by rw [hS]; exact hK) hO' (by rw [hS]; exact hg)
  exact ⟨g, cc, w', by rw [hS]; exact hr, fun a c d => ⟨s, t, g, cc, rfl, T', g1, (g2 A h4).2, h5.trans g3⟩, (g2 A h4).1⟩
/-- The slice that holds both. -/
def FV5 (B : Nat) (A : List Nat) (T0 : Nat → Option Th) (ps : List Pr5) (b : Bk) (bc : Array Value) (n : Nat) (L : List Wr) (v : Value) (x : World) : Prop :=
  ∃ s t T y, v = .slice (some ⟨y, 0, none⟩) 2 2 ∧ x.cell? ⟨y, 0, none⟩ = some (Slc.v s) ∧ x.cell? ⟨y, 1, none⟩ = some (Slc.v t) ∧ L.length = s.n ∧ L.length = t.n ∧ T (8 * n + 6) = some (thKr wrE B s.v L) ∧ T (8 * (n + 1) + 6) = some (thKr wrE B t.v L) ∧ G5 x B T ps b bc ∧ Rws T A ∧ Stc T0 T
theorem FV5_later {B : Nat} {A : List Nat} {T0 : Nat → Option Th} {ps : List Pr5} {b : Bk} {bc : Array Value} {n : Nat} {L : List Wr} {v : Value} {w w' : World} (h : FV5 B A T0 ps b bc n L v w) (hb : Below w.heap.size w w') : FV5 B A T0 ps b bc n L v w' := by
  obtain ⟨s, t, T, y, e, c0, c1, l1, l2, h1, h2, h3, h4⟩ := h
  exact ⟨s, t, T, y, e, cell_later hb c0, cell_later hb c1, l1, l2, h1, h2, h3.later hb, h4⟩
def IV5 (B : Nat) (A : List Nat) (T0 : Nat → Option Th) (ps : List Pr5) (b : Bk) (bc : Array Value) (n : Nat) (L : List Wr) : List Value → World → Prop
  | [], w => At5 B A T0 ps b bc w
  | [a], w => ∃ s T, a = Slc.v s ∧ L.length = s.n ∧ T (8 * n + 6) = some (thKr wrE B s.v L) ∧ G5 w B T ps b bc ∧ Rws T A ∧ Stc T0 T
  | [a, c], w => ∃ s t T, a = Slc.v s ∧ c = Slc.v t ∧ L.length = s.n ∧ L.length = t.n ∧ T (8 * n + 6) = some (thKr wrE B s.v L) ∧ T (8 * (n + 1) + 6) = some (thKr wrE B t.v L) ∧ G5 w B T ps b bc ∧ Rws T A ∧ Stc T0 T
  | [_, _, d], w => FV5 B A T0 ps b bc n L d w
  | [_, _, _, d], w => ∃ s t g cc, d = .slice (some ⟨g, 0, none⟩) (n + 2) cc ∧ At5 B A T0 ps { b with WP := ⟨some ⟨g, 0, none⟩, n + 2, cc⟩, sV := b.sV ++ [(s, L), (t, L)] } bc w
  | _, _ => False
theorem IV5_later {B : Nat} {A : List Nat} {T0 : Nat → Option Th} {ps : List Pr5} {b : Bk} {bc : Array Value} {n : Nat} {L : List Wr} : ∀ vs w w', IV5 B A T0 ps b bc n L vs w → Below w.heap.size w w' → IV5 B A T0 ps b bc n L vs w'
  | [], _, _, h, hb => h.later hb
  | [_], _, _, ⟨s, T, e, l, h1, h2, h3⟩, hb => ⟨s, T, e, l, h1, h2.later hb, h3⟩
  | [_, _], _, _, ⟨s, t, T, e1, e2, l1, l2, h1, h2, h3, h4⟩, hb => ⟨s, t, T, e1, e2, l1, l2, h1, h2, h3.later hb, h4⟩
  | [_, _, _], _, _, h, hb => FV5_later h hb
  | [_, _, _, _], _, _, ⟨s, t, g, cc, e1, h⟩, hb => ⟨s, t, g, cc, e1, h.later hb⟩
  | _ :: _ :: _ :: _ :: _ :: _, _, _, h, _ => h.elim
theorem IV5.first {B : Nat} {A : List Nat} {T0 : Nat → Option Th} {ps : List Pr5} {b : Bk} {bc : Array Value} {n : Nat} {L : List Wr} {x x' : World} {y : Option Addr} {m c : Nat} (h : At5 B A T0 ps b bc x) (hn : b.sV.length = n) (hL : L.length = m) (hb : Below x.heap.size x x') (hO : OwnK wrE x' x.heap.size (.slice y m c) L) : IV5 B A T0 ps b bc n L [.slice y m c] x' := by
  obtain ⟨T, h1, h2, h3⟩ := h
  exact ⟨⟨y, m, c⟩, _, rfl, hL, updT_same _ _ _, h1.newV (by omega) hb hO, h2.upd (by omega), h3.trans (Stc.upd (by omega))⟩
theorem IV5.second {B : Nat} {A : List Nat} {T0 : Nat → Option Th} {ps : List Pr5} {b : Bk} {bc : Array Value} {n : Nat} {L : List Wr} {x x' : World} {a : Value} {y : Option Addr} {m c : Nat} (h : IV5 B A T0 ps b bc n L [a] x) (hn : b.sV.length = n) (hL : L.length = m) (hb : Below x.heap.size x x') (hO : OwnK wrE x' x.heap.size (.slice y m c) L) : IV5 B A T0 ps b bc n L [a, .slice y m c] x' := by
  obtain ⟨s, T, e, l, h0, h1, h2, h3⟩ := h
  exact ⟨s, ⟨y, m, c⟩, _, e, rfl, l, hL, by rw [updT_ne _ _ _ _ (by omega)]; exact h0, updT_same _ _ _, h1.newV (by omega) hb hO, h2.upd (by omega), h3.trans (Stc.upd (by omega))⟩
theorem IV5.build {B : Nat} {A : List Nat} {T0 : Nat → Option Th} {ps : List Pr5} {b : Bk} {bc : Array Value} {n : Nat} {L : List Wr} {x : World} {a c : Value} {ty : TypeId} (h : IV5 B A T0 ps b bc n L [a, c] x) : FV5 B A T0 ps b bc n L (.slice (some ⟨x.heap.size, 0, none⟩) 2 2) (x.alloc (.cells #[a, c] ty)) := by
  obtain ⟨s, t, T, rfl, rfl, l1, l2, h1, h2, h3, h4⟩ := h
  exact ⟨s, t, T, x.heap.size, rfl, cell_of_row _ _ 0 _ _ _ (heap_alloc_last x _), cell_of_row _ _ 1 _ _ _ (heap_alloc_last x _), l1, l2, h1, h2, h3.later (below_alloc _ _), h4⟩
theorem FV5.app {B : Nat} {A : List Nat} {T0 : Nat → Option Th} {ps : List Pr5} {b : Bk} {bc : Array Value} {n : Nat} {L : List Wr} {x : World} {v : Value} {ty : TypeId} (h : FV5 B A T0 ps b bc n L v x) (hn : b.sV.length = n) (hn4 : n ≤ 16777216) :
    ∃ g cc w', (Builtin.append_ #[41, 41] ty #[b.WP.v, v]).run Try.prog x = .ok (.slice (some ⟨g, 0, none⟩) (n + 2) cc) w' ∧ (∀ a c d, IV5 B A T0 ps b bc n L [a, c, d, .slice (some ⟨g, 0, none⟩) (n + 2) cc] w') ∧ KA B A x w' := by
  obtain ⟨s, t, T, y, rfl, c0, c1, l1, l2, h1, h2, h3, h4, h5⟩ := h
  have hO := h3.ga.isG h3.WP
  have hF := h3.nV.1
  rw [hn] at hF
  obtain ⟨⟨yv, nv, cv⟩, hS⟩ : ∃ q, b.WP = q := ⟨_, rfl⟩
  rw [hS] at hO hF
  simp only at hF
  subst hF
  obtain ⟨g, cc, w', hr, hO', hK, hg⟩ := appLies eltW x B yv nv cv (b.sV.map sVal) [s.v, t.v] y 2 ty hO (by rw [List.length_map]; exact hn) rfl (fun j u hu => by
    rcases j with _ | _ | j
    · simp at hu; subst hu; exact c0
    · simp at hu; subst hu; exact c1
    · simp at hu) (fun u hu => by simp at hu; rcases hu with rfl | rfl <;> rfl) (by omega) h3.ga.size (by omega) (by unfold maxLen; omega)
  obtain ⟨T', g1, g2, g3⟩ := h3.appV hn h1 h2 l1 l2 (g := g) (c := cc) (by rw [hS]; exact hK) hO' (by rw [hS]; exact hg)
  exact ⟨g, cc, w', by rw [hS]; exact hr, fun a c d => ⟨s, t, g, cc, rfl, T', g1, (g2 A h4).2, h5.trans g3⟩, (g2 A h4).1⟩
/-- One list twice. -/
theorem At5.pairW {B : Nat} {A : List Nat} {T0 : Nat → Option Th} {ps : List Pr5} {b : Bk} {bc : Array Value} {n : Nat} {L : List Sc} {x : World} {l : Slc} {ty : TypeId} (h : At5 B A T0 ps b bc x) (h7 : T0 72 = some (thKr secE B l.v L)) (hn : b.sW.length = n) (hL : L.length = l.n) : FW5 B A T0 ps b bc n L (.slice (some ⟨x.heap.size, 0, none⟩) 2 2) (x.alloc (.cells #[l.v, l.v] ty)) := by
  obtain ⟨T, h1, h2, h3⟩ := h
  have g1 := h1.againW (n := n) (by omega) (h3.2.2.2.2.trans h7)
  have g2 := g1.againW (n := n + 1) (by omega) (updT_same _ _ _)
  exact ⟨l, l, _, x.heap.size, rfl, cell_of_row _ _ 0 _ _ _ (heap_alloc_last x _), cell_of_row _ _ 1 _ _ _ (heap_alloc_last x _), hL, hL, by rw [updT_ne _ _ _ _ (by omega)]; exact updT_same _ _ _, updT_same _ _ _, g2.later (below_alloc _ _), (h2.upd (by omega)).upd (by omega), h3.trans ((Stc.upd (by omega)).trans (Stc.upd (by omega)))⟩
/-- One list twice. -/
theorem At5.pairV {B : Nat} {A : List Nat} {T0 : Nat → Option Th} {ps : List Pr5} {b : Bk} {bc : Array Value} {n : Nat} {L : List Wr} {x : World} {l : Slc} {ty : TypeId} (h : At5 B A T0 ps b bc x) (h7 : T0 72 = some (thKr wrE B l.v L)) (hn : b.sV.length = n) (hL : L.length = l.n) : FV5 B A T0 ps b bc n L (.slice (some ⟨x.heap.size, 0, none⟩) 2 2) (x.alloc (.cells #[l.v, l.v] ty)) := by
  obtain ⟨T, h1, h2, h3⟩ := h
  have g1 := h1.againV (n := n) (by omega) (h3.2.2.2.2.trans h7)
  have g2 := g1.againV (n := n + 1) (by omega) (updT_same _ _ _)
  exact ⟨l, l, _, x.heap.size, rfl, cell_of_row _ _ 0 _ _ _ (heap_alloc_last x _), cell_of_row _ _ 1 _ _ _ (heap_alloc_last x _), hL, hL, by rw [updT_ne _ _ _ _ (by omega)]; exact updT_same _ _ _, updT_same _ _ _, g2.later (below_alloc _ _), (h2.upd (by omega)).upd (by omega), h3.trans ((Stc.upd (by omega)).trans (Stc.upd (by omega)))⟩
end Go.Proofs.Ytadnfiikfhdphaa
