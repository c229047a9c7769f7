
import Derived.Test.YtmbkkdojjfdliaaBat8
namespace Go.Proofs.Ytmbkkdojjfdliaa
open Go.RowKit

/-! Families of parts: each with cells of its own -/
def Bit (w : World) (B : Nat) (v : Value) (X : Nat → Nat → Prop) (ds : List Wr) : Prop :=
  (∃ x, v = .slice x 0 0 ∧ ds = []) ∨ ∃ p : Pt, 0 < p.c ∧ v = p.v ∧ PtOk wrE w B p ∧ PtIs wrE w p ds ∧ ∀ b t, p.has 65 b t → X b t
theorem has_first (p : Pt) (h : 0 < p.c) : p.has 65 p.g p.o := ⟨rfl, Nat.le_refl _, by omega⟩
theorem Bit.form {w : World} {B : Nat} {v : Value} {X : Nat → Nat → Prop} {ds : List Wr} (h : Bit w B v X ds) : ∃ x c, v = .slice x ds.length c := by
  rcases h with ⟨x, rfl, rfl⟩ | ⟨p, -, rfl, -, h2, -⟩
  · exact ⟨x, 0, rfl⟩
  · exact ⟨_, p.c, by rw [h2.1]; rfl⟩
theorem Bit.one {w : World} {B : Nat} {v : Value} {X : Nat → Nat → Prop} {ds : List Wr} (h : Bit w B v X ds) : v.oneCell' = true := by
  obtain ⟨x, c, rfl⟩ := h.form
  rfl
theorem Bit.isK {w : World} {B : Nat} {v : Value} {X : Nat → Nat → Prop} {ds : List Wr} (h : Bit w B v X ds) : IsK wrE w v ds := by
  rcases h with ⟨x, rfl, rfl⟩ | ⟨p, -, rfl, h1, h2, -⟩
  · exact ⟨x, 0, rfl, Nat.le_refl _, fun i d hi => by simp at hi⟩
  · exact h2.isK wrE_ok h1
theorem Bit.more {w : World} {B : Nat} {v : Value} {X Y : Nat → Nat → Prop} {ds : List Wr} (h : Bit w B v X ds) (hx : ∀ b t, X b t → Y b t) : Bit w B v Y ds := by
  rcases h with h | ⟨p, h0, h1, h2, h3, h4⟩
  · exact .inl h
  · exact .inr ⟨p, h0, h1, h2, h3, fun b t hb => hx b t (h4 b t hb)⟩
theorem Bit.le {w : World} {B B' : Nat} {v : Value} {X : Nat → Nat → Prop} {ds : List Wr} (h : Bit w B v X ds) (hb : B' ≤ B) : Bit w B' v X ds := by
  rcases h with h | ⟨p, h0, h1, h2, h3, h4⟩
  · exact .inl h
  · exact .inr ⟨p, h0, h1, ⟨Nat.le_trans hb h2.ge, h2.le, h2.mx, h2.row⟩, h3, h4⟩
theorem Bit.cel {w w' : World} {B : Nat} {v : Value} {X Y : Nat → Nat → Prop} {ds : List Wr} (h : Bit w B v X ds) (hc : Cel Y w w') (hx : ∀ b t, X b t → ¬ Y b t) : Bit w' B v X ds := by
  rcases h with h | ⟨p, h0, h1, h2, h3, h4⟩
  · exact .inl h
  · refine .inr ⟨p, h0, h1, h2.cel hc, h3.cel wrE_ok hc (fun j hj => hx _ _ (h4 _ _ ⟨rfl, by omega, ?_⟩)), h4⟩
    have h9 : p.n * 65 ≤ p.c * 65 := Nat.mul_le_mul_right _ h2.le
    rw [wrE_k] at hj
    omega
theorem Bit.celNil {w w' : World} {B : Nat} {v : Value} {X Y : Nat → Nat → Prop} (h : Bit w B v X []) (hc : Cel Y w w') : Bit w' B v X [] := by
  rcases h with h | ⟨p, h0, h1, h2, h3, h4⟩
  · exact .inl h
  · exact .inr ⟨p, h0, h1, h2.cel hc, ⟨h3.1, fun j u hu => by simp [flK] at hu⟩, h4⟩
theorem cell_block26 {w w' : World} {b t : Nat} {v : Value} (h : w.cell? ⟨b, t, none⟩ = some v) (hb : w'.heap[b]? = w.heap[b]?) : w'.cell? ⟨b, t, none⟩ = some v := by
  unfold World.cell? at h ⊢
  simp only [hb]
  exact h
theorem Bit.keep {w w' : World} {B : Nat} {v : Value} {X : Nat → Nat → Prop} {ds : List Wr} (h : Bit w B v X ds) (hb : ∀ b t, X b t → w'.heap[b]? = w.heap[b]?) : Bit w' B v X ds := by
  rcases h with h | ⟨p, h0, h1, h2, h3, h4⟩
  · exact .inl h
  · have hg := hb _ _ (h4 _ _ (has_first p h0))
    obtain ⟨cur, k1, k2⟩ := h2.row
    exact .inr ⟨p, h0, h1, ⟨h2.ge, h2.le, h2.mx, cur, by rw [hg]; exact k1, k2⟩, ⟨h3.1, fun j u hu => cell_block26 (h3.2 j u hu) hg⟩, h4⟩
theorem Bit.below {w w' : World} {B : Nat} {v : Value} {X : Nat → Nat → Prop} {ds : List Wr} (h : Bit w B v X ds) (hb : Below w.heap.size w w') : Bit w' B v X ds := by
  rcases h with h | ⟨p, h0, h1, h2, h3, h4⟩
  · exact .inl h
  · have hg := hb.block p.g h2.lt
    obtain ⟨cur, k1, k2⟩ := h2.row
    exact .inr ⟨p, h0, h1, ⟨h2.ge, h2.le, h2.mx, cur, by rw [hg]; exact k1, k2⟩, ⟨h3.1, fun j u hu => cell_block26 (h3.2 j u hu) hg⟩, h4⟩
/-- An element is stored. -/
theorem Bit.put {w : World} {B : Nat} {v : Value} {X : Nat → Nat → Prop} {ds : List Wr} (h : Bit w B v X ds) (j : Nat) (d : Wr) (hj : j < ds.length) : ∃ g o c, v = .slice (some ⟨g, o, none⟩) ds.length c ∧ (Instr.storeAt wrE.T (.pointer (some ⟨g, o + j * 65, none⟩)) (.agg (wrE.enc d).toArray)).run Try.prog w = .ok () (w.setCells g (o + j * 65) (wrE.enc d)) ∧ Bit (w.setCells g (o + j * 65) (wrE.enc d)) B v X (ds.set j d) ∧ Cel X w (w.setCells g (o + j * 65) (wrE.enc d)) := by
  rcases h with ⟨x, rfl, rfl⟩ | ⟨p, h0, rfl, h2, h3, h4⟩
  · simp at hj
  · have hjn : j < p.n := by rw [← h3.1]; exact hj
    have hjc : j < p.c := Nat.lt_of_lt_of_le hjn h2.le
    obtain ⟨hc, -⟩ := h2.stored wrE_ok j d hjc
    exact ⟨p.g, p.o, p.c, by rw [h3.1]; rfl, h2.store wrE_ok j d hjc, .inr ⟨p, h0, rfl, h2.cel hc, h3.put wrE_ok h2 j d hjn, h4⟩, hc.mono (fun b t hb => .inl (h4 b t hb))⟩
/-- A list and what it was lengthened to. -/
def Duo (w : World) (B : Nat) (v u : Value) (X : Nat → Nat → Prop) (ds es : List Wr) : Prop :=
  Bit w B u X (ds ++ es) ∧ Bit w B v X ds ∧ (ds = [] ∨ (∃ x n m c, v = .slice x n c ∧ u = .slice x m c) ∨ ∃ g o n c g' o' m c', v = .slice (some ⟨g, o, none⟩) n c ∧ u = .slice (some ⟨g', o', none⟩) m c' ∧ g ≠ g')
theorem Duo.start {w : World} {B : Nat} {v : Value} {X : Nat → Nat → Prop} {ds : List Wr} (h : Bit w B v X ds) : Duo w B v v X ds [] := by
  obtain ⟨x, c, rfl⟩ := h.form
  exact ⟨by rw [List.append_nil]; exact h, h, .inr (.inl ⟨x, _, _, c, rfl, rfl⟩)⟩
theorem Duo.below {w w' : World} {B : Nat} {v u : Value} {X : Nat → Nat → Prop} {ds es : List Wr} (h : Duo w B v u X ds es) (hb : Below w.heap.size w w') : Duo w' B v u X ds es := ⟨h.1.below hb, h.2.1.below hb, h.2.2⟩
def newC (X : Nat → Nat → Prop) (w w' : World) (b t : Nat) : Prop := X b t ∨ (w.heap.size ≤ b ∧ b < w'.heap.size)
theorem Duo.app {w : World} {B y : Nat} {v u : Value} {X : Nat → Nat → Prop} {ds es : List Wr} (h : Duo w B v u X ds es) (d : Wr) (ty : TypeId) (hy : w.rangeAt y 0 (wrE.enc d)) (hl : (ds.length + es.length + 1) * 72 ≤ 140737488355328) (hB : B ≤ w.heap.size) :
    ∃ u' w', (Builtin.append_ #[22, 22] ty #[u, .slice (some ⟨y, 0, none⟩) 1 1]).run Try.prog w = .ok u' w' ∧ Duo w' B v u' (newC X w w') ds (es ++ [d]) ∧ Cel X w w' := by
  obtain ⟨hu, hv, hr⟩ := h
  have h63 : ds.length + es.length + 1 ≤ maxLen := by unfold maxLen; omega
  rcases hu with ⟨x, rfl, he⟩ | ⟨p, h0, rfl, h2, h3, h4⟩
  · obtain ⟨rfl, rfl⟩ := List.append_eq_nil_iff.1 he
    obtain ⟨p', w', k1, k2, k3, k4, k5, k6⟩ := run_growP wrE_ok w B y x 0 0 [] d ty rfl (Nat.le_refl _) (fun _ => rfl) (fun a _ j u hu => by simp [flK] at hu) hy (by omega) (by show (0 + 1) * 72 ≤ _; omega) (by unfold maxLen; omega) hB
    refine ⟨_, w', k1, ⟨.inr ⟨p', by have := k3.le; omega, rfl, k3, k4, fun b t hb => .inr ?_⟩, (hv.below k5).more (fun b t hb => .inl hb), .inl rfl⟩, Cel.of_below k5⟩
    have := k3.lt
    have := hb.1
    omega
  · have hpn : p.n = ds.length + es.length := by rw [← h3.1, List.length_append]
    obtain ⟨p', w', k1, k2, k3, k4, k5, k6⟩ := run_appP wrE_ok w B y p (ds ++ es) d ty h2 h3 hy (by rw [hpn]; exact hl) (by rw [hpn]; exact h63) hB
    rw [wrE_k] at k5
    have hcX : Cel X w w' := k5.mono (fun b t hb => .inl (h4 b t hb))
    rw [List.append_assoc] at k4
    rcases k6 with ⟨e1, e2, e3⟩ | ⟨e1, e2⟩
    · refine ⟨_, w', k1, ⟨.inr ⟨p', by omega, rfl, k3, k4, fun b t hb => .inl (h4 b t ?_)⟩, ?_, ?_⟩, hcX⟩
      · obtain ⟨q1, q2, q3⟩ := hb
        exact ⟨by omega, by omega, by omega⟩
      · rcases hr with rfl | ⟨x, n, m, c, rfl, e9⟩ | ⟨g, o, n, c, g', o', m, c', rfl, e9, hne⟩
        · exact (hv.celNil hcX).more (fun b t hb => .inl hb)
        · rcases hv with ⟨x', e8, rfl⟩ | ⟨q, q0, e8, q2, q3, q4⟩
          · exact .inl ⟨x', e8, rfl⟩
          · refine .inr ⟨q, q0, e8, q2.cel hcX, ⟨q3.1, fun j u hu => ?_⟩, fun b t hb => .inl (q4 b t hb)⟩
            simp only [Pt.v, Value.slice.injEq] at e9 e8
            obtain ⟨rfl, -, rfl⟩ := e9
            obtain ⟨e8, -, -⟩ := e8
            simp only [Option.some.injEq, Addr.mk.injEq, and_true] at e8
            have hj := (List.getElem?_eq_some_iff.1 hu).1
            have := k4.2 j u (by rw [flK_app, List.getElem?_append_left hj]; exact hu)
            rw [e1, e2] at this
            rw [← e8.1, ← e8.2]
            exact this
        · rcases hv with ⟨x', e8, rfl⟩ | ⟨q, q0, e8, q2, q3, q4⟩
          · exact .inl ⟨x', e8, rfl⟩
          · simp only [Pt.v, Value.slice.injEq, Option.some.injEq, Addr.mk.injEq, and_true] at e9 e8
            refine .inr ⟨q, q0, ?_, q2.cel hcX, q3.cel wrE_ok k5 (fun j hj h9 => ?_), fun b t hb => .inl (q4 b t hb)⟩
            · simp only [Pt.v, Value.slice.injEq, Option.some.injEq, Addr.mk.injEq, and_true]
              exact e8
            · have := h9.1
              omega
      · rcases hr with rfl | ⟨x, n, m, c, rfl, e9⟩ | ⟨g, o, n, c, g', o', m, c', rfl, e9, hne⟩
        · exact .inl rfl
        · simp only [Pt.v, Value.slice.injEq] at e9
          obtain ⟨rfl, -, rfl⟩ := e9
          exact .inr (.inl ⟨_, n, p'.n, p.c, rfl, by simp only [Pt.v]; rw [e1, e2, e3]⟩)
        · simp only [Pt.v, Value.slice.injEq, Option.some.injEq, Addr.mk.injEq, and_true] at e9
          exact .inr (.inr ⟨g, o, n, c, p'.g, p'.o, p'.n, p'.c, rfl, rfl, by omega⟩)
    · refine ⟨_, w', k1, ⟨.inr ⟨p', by have := k3.le; omega, rfl, k3, k4, fun b t hb => .inr ?_⟩, (hv.below e2).more (fun b t hb => .inl hb), ?_⟩, hcX⟩
      · have := k3.lt
        have := hb.1
        omega
      · rcases hv with ⟨x', e8, rfl⟩ | ⟨q, q0, e8, q2, q3, q4⟩
        · exact .inl rfl
        · refine .inr (.inr ⟨q.g, q.o, q.n, q.c, p'.g, p'.o, p'.n, p'.c, e8, rfl, ?_⟩)
          have := q2.lt
          omega
/-- A family: values, each a list with cells of its own. -/
structure Fam (w : World) (B : Nat) (vs : List Value) (X : Nat → Nat → Nat → Prop) (L : Nat → List Wr) : Prop where
  bit : ∀ (i : Nat) v, vs[i]? = some v → Bit w B v (X i) (L i)
  dom : ∀ (i : Nat), i < vs.length → ∀ b t, X i b t → B ≤ b ∧ b < w.heap.size
  ap : ∀ (i j : Nat), i < vs.length → j < vs.length → i ≠ j → ∀ b t, X i b t → ¬ X j b t
theorem Fam.below {w w' : World} {B : Nat} {vs : List Value} {X : Nat → Nat → Nat → Prop} {L : Nat → List Wr} (h : Fam w B vs X L) (hb : Below w.heap.size w w') : Fam w' B vs X L :=
  ⟨fun i v hv => (h.bit i v hv).below hb, fun i hi b t hx => ⟨(h.dom i hi b t hx).1, Nat.lt_of_lt_of_le (h.dom i hi b t hx).2 hb.size⟩, h.ap⟩
theorem Fam.nil (w : World) (B : Nat) : Fam w B [] (fun _ _ _ => False) (fun _ => []) := ⟨fun i v hv => by simp at hv, fun i hi => by simp at hi, fun i j hi => by simp at hi⟩
/-- Two families, the second in younger memory. -/
theorem Fam.both {w : World} {B B2 : Nat} {vs us : List Value} {X Y : Nat → Nat → Nat → Prop} {L M : Nat → List Wr} (h : Fam w B vs X L) (k : Fam w B2 us Y M) (hB : B ≤ B2) (hlt : ∀ i, i < vs.length → ∀ b t, X i b t → b < B2) : Fam w B (vs ++ us) (fun i => if i < vs.length then X i else Y (i - vs.length)) (fun i => if i < vs.length then L i else M (i - vs.length)) := by
  refine ⟨fun i v hv => ?_, fun i hi b t hx => ?_, fun i j hi hj hne b t hx hy => ?_⟩
  · by_cases e : i < vs.length
    · rw [List.getElem?_append_left e] at hv
      rw [if_pos e, if_pos e]
      exact h.bit i v hv
    · rw [List.getElem?_append_right (by omega)] at hv
      rw [if_neg e, if_neg e]
      exact (k.bit _ v hv).le hB
  · rw [List.length_append] at hi
    by_cases e : i < vs.length
    · simp only [if_pos e] at hx
      exact h.dom i e b t hx
    · simp only [if_neg e] at hx
      have := k.dom (i - vs.length) (by omega) b t hx
      exact ⟨by omega, this.2⟩
  · rw [List.length_append] at hi hj
    by_cases e : i < vs.length
    · simp only [if_pos e] at hx
      by_cases f : j < vs.length
      · simp only [if_pos f] at hy
        exact h.ap i j e f hne b t hx hy
      · simp only [if_neg f] at hy
        have := hlt i e b t hx
        have := k.dom (j - vs.length) (by omega) b t hy
        omega
    · simp only [if_neg e] at hx
      by_cases f : j < vs.length
      · simp only [if_pos f] at hy
        have := hlt j f b t hy
        have := k.dom (i - vs.length) (by omega) b t hx
        omega
      · simp only [if_neg f] at hy
        exact k.ap _ _ (by omega) (by omega) (by omega) b t hx hy
theorem CutP.fam {w : World} {B : Nat} {v : Value} {C : List (List Wr)} {ps : List Pt} (h : CutP w B v C ps) : Fam w B (ps.map Pt.v) (fun i b t => ∃ p, ps[i]? = some p ∧ p.has 65 b t) (fun i => (C[i]?).getD []) := by
  refine ⟨fun i v hv => ?_, fun i hi b t ⟨p, hp, hh⟩ => ?_, fun i j hi hj hne b t ⟨p, hp, hx⟩ ⟨q, hq, hy⟩ => h.ap i j p q hne hp hq b t hx hy⟩
  · rw [List.getElem?_map] at hv
    obtain ⟨p, hp, rfl⟩ := Option.map_eq_some_iff.1 hv
    obtain ⟨ds, hds⟩ : ∃ q, C[i]? = some q := ⟨_, List.getElem?_eq_getElem (by rw [← h.len]; exact (List.getElem?_eq_some_iff.1 hp).1)⟩
    have hI := h.is i p ds hp hds
    have hO := h.ok i p hp
    rw [hds]
    rcases Nat.eq_zero_or_pos p.c with e | e
    · have hn : p.n = 0 := by have := hO.le; omega
      exact .inl ⟨some ⟨p.g, p.o, none⟩, by simp only [Pt.v]; rw [hn, e], List.eq_nil_of_length_eq_zero (by show ds.length = 0; rw [hI.1]; exact hn)⟩
    · exact .inr ⟨p, e, rfl, hO, hI, fun b t hb => ⟨p, hp, hb⟩⟩
  · have hO := h.ok i p hp
    have := hO.ge
    have := hO.lt
    have := hh.1
    omega
theorem OwnK.bit {w : World} {B : Nat} {v : Value} {ds : List Wr} (h : OwnK wrE w B v ds) : Fam w B [v] (fun _ b _ => B ≤ b ∧ b < w.heap.size) (fun _ => ds) := by
  refine ⟨fun i u hu => ?_, fun i _ b t hx => hx, fun i j hi hj hne => by simp at hi hj; omega⟩
  obtain rfl : v = u := by
    rcases i with _ | i
    · simpa using hu
    · simp at hu
  obtain ⟨hl, ⟨rfl, hn⟩ | ⟨g, cap, cur, rfl, hb, hg, hle, hm, hs, ht⟩⟩ := h
  · exact .inl ⟨none, rfl, List.eq_nil_of_length_eq_zero hn⟩
  · rcases Nat.eq_zero_or_pos cap with e | e
    · have hn : ds.length = 0 := by omega
      exact .inl ⟨some ⟨g, 0, none⟩, by rw [hn, e], List.eq_nil_of_length_eq_zero hn⟩
    · refine .inr ⟨⟨g, 0, ds.length, cap⟩, e, rfl, ⟨hb, hle, hm, cur, hg, by show 0 + cap * wrE.k ≤ _; omega⟩, ⟨rfl, fun j u hu => ?_⟩, fun b t hh => ?_⟩
      · have hjl := (List.getElem?_eq_some_iff.1 hu).1
        show w.cell? ⟨g, 0 + j, none⟩ = some u
        rw [Nat.zero_add, cell_of_row w g j cur wrE.T (0, 0) hg]
        have h9 := congrArg (fun l => l[j]?) ht
        rw [hu] at h9
        rw [List.getElem?_take_of_lt (by rw [flK_len wrE_ok] at hjl; exact hjl)] at h9
        simpa using h9
      · have := (Array.getElem?_eq_some_iff.1 hg).1
        have := hh.1
        show B ≤ b ∧ b < w.heap.size
        simp only at this
        omega
end Go.Proofs.Ytmbkkdojjfdliaa
