
import Derived.Test.YtmdhgadmfcmecaaApp
namespace Go.Proofs.Ytmdhgadmfcmecaa
open Go.RowKit

/-! A slice of slices of bytes of the call's own, and append of one slice -/
theorem info22 : (Try.prog.info? 22).map (fun i => (i.zero, i.size, i.bytes)) = some (some (.slice none 0 0), 1, 24) := by kernel_rfl
def OwnV (w : World) (base : Nat) (v : Value) (vs : List Value) : Prop := w.ownsRow base 22 1 v vs.length vs
theorem OwnV.nil (w : World) (base : Nat) : OwnV w base (.slice none 0 0) [] := World.ownsRow_nil w base 22 1
theorem OwnV.cell {w : World} {base : Nat} {v : Value} {vs : List Value} (h : OwnV w base v vs) (i : Nat) (u : Value) (hi : vs[i]? = some u) : ∃ g c, v = .slice (some ⟨g, 0, none⟩) vs.length c ∧ w.cell? ⟨g, i, none⟩ = some u := by
  have h' := h
  obtain ⟨_, ⟨rfl, hn⟩ | ⟨g, cap, cur, rfl, hb, hg, hle, hm, hs, ht⟩⟩ := h
  · rw [List.eq_nil_of_length_eq_zero hn] at hi; simp at hi
  · have := h'.cells (g := g) rfl i u hi
    rw [addr_add, Nat.zero_add] at this
    exact ⟨g, cap, rfl, this⟩
theorem below_grownV {w w' : World} {base : Nat} {v : Value} {l : List Value} (h : OwnV w base v l) (hg : w.grownBy w' v.ownBlock) (hb : base ≤ w.heap.size) : Below base w w' :=
  ⟨hg.os, hg.tape, hg.output, hg.size, fun k hk => hg.block k (by omega) (fun e => by have := h.lt k e.symm; omega)⟩
theorem run_app1V (w : World) (base y c : Nat) (v : Value) (vs : List Value) (u : Value) (ty : TypeId) (h : OwnV w base v vs) (hy : w.cell? ⟨y, 0, none⟩ = some u) (hu : u.oneCell' = true) (hl : (vs.length + 1) * 24 ≤ 140737488355328) (hb : base ≤ w.heap.size) :
    ∃ v' w', (Builtin.append_ #[25, 25] ty #[v, .slice (some ⟨y, 0, none⟩) 1 c]).run Try.prog w = .ok v' w' ∧ OwnV w' base v' (vs ++ [u]) ∧ Below base w w' ∧ w.heap.size ≤ w'.heap.size := by
  obtain ⟨i, hi, hzz⟩ := Option.map_eq_some_iff.1 info22
  simp only [Prod.mk.injEq] at hzz
  obtain ⟨hz, hs, hby⟩ := hzz
  obtain ⟨g, cap, w', hr, h2, h3, h4, h5⟩ := run_append_lies (P := Try.prog) w 25 ty base 22 i _ 1 24 Try.underlying25 hi hz hs hby rfl (by omega) v vs.length vs h ⟨y, 0, none⟩ 1 c [u] rfl
    (fun j z hz => by
      rcases j with _ | j
      · simp at hz; subst hz
        rw [addr_add]; exact hy
      · simp at hz) (by simpa using hu) (by omega) (by unfold maxLen; omega) (by omega) hb _ rfl
  refine ⟨_, w', hr, ?_, below_grownV h h3 hb, h3.size⟩
  unfold OwnV
  rw [List.length_append]
  exact h2
theorem OwnV.keep {w w' : World} {base : Nat} {v : Value} {l : List Value} (h : OwnV w base v l) (hb : Below w.heap.size w w') : OwnV w' base v l :=
  World.ownsRow.kept h (row := none) ⟨hb.os, hb.tape, hb.output, hb.size, fun k hk _ => hb.block k hk⟩ (by
    rcases h.2 with ⟨rfl, _⟩ | ⟨g, cap, cur, rfl, _⟩
    · exact .inl rfl
    · exact .inr (by simp [Value.ownBlock]))
theorem wpL_appV {ops : Array Oper} {rest : List Oper} {o : Oper} {a : Act} {w : World} {Q : Exit → Act → World → Prop} (hgd : o.guard = none) (s x : Operand)
    (ho : o.op = .call { callee := .builtin .append, args := #[s, x], argTypes := #[25, 25] }) (v' : Value) (w' : World) (hr : (Builtin.append_ #[25, 25] o.type #[a.eval s, a.eval x]).run Try.prog w = .ok v' w')
    (h : wpList Try.prog ops Q rest (a.put o.dst v') w') : wpList Try.prog ops Q (o :: rest) a w :=
  wpList_plain hgd fun _ hK => by
    unfold Oper.wp execOp
    simp only [ho, resolve, invoke, builtin, Sem.run_bind, Sem.run_pure, Result.andThen_ok, List.map_toArray, List.map_cons, List.map_nil, hr]
    exact hK _ _ h
/-- What the values are as slices of bytes. -/
def AreB (w : World) (vs : List Value) (ls : List (List UInt8)) : Prop := vs.length = ls.length ∧ ∀ i (h : i < ls.length), ∃ u, vs[i]? = some u ∧ IsB w u ls[i]
theorem AreB.nil (w : World) : AreB w [] [] := ⟨rfl, fun i h => by simp at h⟩
theorem AreB.snoc {w : World} {vs : List Value} {ls : List (List UInt8)} {u : Value} {l : List UInt8} (h : AreB w vs ls) (hu : IsB w u l) : AreB w (vs ++ [u]) (ls ++ [l]) := by
  refine ⟨by simp [h.1], fun i hi => ?_⟩
  by_cases h1 : i < ls.length
  · obtain ⟨z, h2, h3⟩ := h.2 i h1
    exact ⟨z, by rw [List.getElem?_append_left (by rw [h.1]; exact h1)]; exact h2, by rw [List.getElem_append_left h1]; exact h3⟩
  · have e : i = ls.length := by simp at hi; omega
    subst e
    exact ⟨u, by rw [← h.1]; simp, by simpa using hu⟩
theorem AreB.kept {w w1 : World} {vs : List Value} {ls : List (List UInt8)} (h : AreB w vs ls) (hb : Below w.heap.size w w1) : AreB w1 vs ls :=
  ⟨h.1, fun i hi => by obtain ⟨u, h1, h2⟩ := h.2 i hi; exact ⟨u, h1, h2.kept hb⟩⟩
theorem OwnV.isBB {w : World} {base : Nat} {v : Value} {vs : List Value} {ls : List (List UInt8)} (h : OwnV w base v vs) (ha : AreB w vs ls) : IsBB w v ls := by
  by_cases h0 : ls = []
  · subst h0
    have hn : vs.length = 0 := by simpa using ha.1
    obtain ⟨_, ⟨rfl, _⟩ | ⟨g, cap, cur, rfl, _⟩⟩ := h
    · exact .inl ⟨rfl, rfl⟩
    · exact .inr ⟨_, cap, by rw [hn]; rfl, fun i hi => by simp at hi⟩
  · have hp : 0 < ls.length := List.length_pos_iff.2 h0
    obtain ⟨u0, h1, _⟩ := ha.2 0 hp
    obtain ⟨g, c, rfl, _⟩ := h.cell 0 u0 h1
    refine .inr ⟨⟨g, 0, none⟩, c, by rw [ha.1], fun i hi => ?_⟩
    obtain ⟨u, h2, h3⟩ := ha.2 i hi
    obtain ⟨g', c', he, hc⟩ := h.cell i u h2
    simp only [Value.slice.injEq, Option.some.injEq, Addr.mk.injEq, and_true, true_and] at he
    obtain ⟨rfl, rfl⟩ := he
    exact ⟨u, by rw [addr_add, Nat.zero_add]; exact hc, h3⟩
/-- A part of a slice of bytes. -/
theorem IsB.part {w : World} {x : Option Addr} {c : Nat} {l : List UInt8} (h : IsB w (.slice x l.length c) l) (f n : Nat) (hn : f + n ≤ l.length) (hc : l.length ≤ c) :
    ∃ y d, sliced x f (f + n) c 1 = .slice y n d ∧ n ≤ d ∧ d ≤ c ∧ IsB w (.slice y n d) ((l.drop f).take n) := by
  have e0 : f + n - f = n := by omega
  unfold sliced
  rw [e0]
  refine ⟨_, _, rfl, by omega, by omega, ?_⟩
  have hln : ((l.drop f).take n).length = n := by simp; omega
  rcases h with ⟨h, rfl⟩ | ⟨y, d, he, hcell⟩
  · simp only [Value.slice.injEq] at h
    obtain ⟨rfl, _, rfl⟩ := h
    simp at hn
    obtain ⟨rfl, rfl⟩ := hn
    exact .inl ⟨rfl, rfl⟩
  · simp only [Value.slice.injEq, true_and] at he
    obtain ⟨rfl, rfl⟩ := he
    have hcell' : ∀ i, i < n → w.cell? (y.add (f + i)) = some (Value.int .u8 ((l[f + i]?.getD 0).toNat : Int)) := fun i hi => by
      have h9 : f + i < l.length := by omega
      rw [hcell _ h9]; simp [h9]
    have hget : ∀ i (h : i < ((l.drop f).take n).length), ((l.drop f).take n)[i] = l[f + i]?.getD 0 := fun i hi => by
      have h9 : f + i < l.length := by omega
      simp [h9]
    by_cases hcf : c = f
    · have hn0 : n = 0 := by omega
      rw [if_pos hcf]
      exact .inr ⟨y, c - f, by rw [hln], fun i hi => by omega⟩
    · rw [if_neg hcf, Option.map_some, Nat.mul_one]
      refine .inr ⟨y.add f, c - f, by rw [hln], fun i hi => ?_⟩
      rw [hget i hi, ← hcell' i (by omega)]
      by_cases hf0 : n = 0
      · omega
      · have hsp : (y.add f).spot = none := World.cell?_spot (by have := hcell' 0 (by omega); rw [Nat.add_zero] at this; exact this)
        have hsp0 : y.spot = none := by
          by_cases hf : f = 0
          · subst hf; simpa [Addr.add] using hsp
          · exact World.cell?_spot (a := y) (by have := hcell 0 (by omega); simpa [Addr.add] using this)
        obtain ⟨b, o, s⟩ := y
        simp only at hsp0; subst hsp0
        rw [addr_add, addr_add, addr_add, Nat.add_assoc]
theorem IsB.cut {w : World} {x : Option Addr} {c : Nat} {l : List UInt8} (h : IsB w (.slice x l.length c) l) (f n : Nat) (hn : f + n ≤ l.length) (hc : l.length ≤ c) :
    IsB w (.slice (if c = f then x else x.map (fun a => a.add f)) n (c - f)) ((l.drop f).take n) := by
  obtain ⟨y, d, e, -, -, h2⟩ := h.part f n hn hc
  unfold sliced at e
  rw [Nat.mul_one, show f + n - f = n by omega] at e
  rw [e]; exact h2
/-- A slice of ints. -/
def IsI (w : World) (v : Value) (zs : List Int) : Prop := ∃ x c, v = .slice x zs.length c ∧ ∀ i (_ : i < zs.length), ∃ b o, x = some ⟨b, o, none⟩ ∧ b < w.heap.size ∧ w.cell? ⟨b, o + i, none⟩ = some (.int .i64 (zs[i]?.getD 0))
theorem IsI.kept {w w1 : World} {v : Value} {zs : List Int} (h : IsI w v zs) (hb : Below w.heap.size w w1) : IsI w1 v zs := by
  obtain ⟨x, c, rfl, hc⟩ := h
  refine ⟨x, c, rfl, fun i hi => ?_⟩
  obtain ⟨b, o, rfl, h1, h2⟩ := hc i hi
  exact ⟨b, o, rfl, Nat.lt_of_lt_of_le h1 hb.size, by rw [hb.cell h1]; exact h2⟩
end Go.Proofs.Ytmdhgadmfcmecaa
