import Derived.Test.YtiokdcffpnjkcaaDoorQLxe
namespace Go.Proofs.YtiokdcffpnjkcaaDoor
open Go.RowKit

/-! lex.Token as a whole row; what a string's content is -/
section
variable (ρ : Operand → Value) (dst : Option Tmp) (ty : TypeId) (pos : String) (after : Array Edge) (guard : Option (Nat × Bool))
@[go_sem ↓] theorem execOp_load_tl (x : Operand) : execOp ρ { dst, op := .load 31 x, type := ty, pos, after, guard } = bigLoad 31 (ρ x) := rfl
@[go_sem ↓] theorem execOp_store_tl (x y : Operand) : execOp ρ { dst, op := .store 31 x y, type := ty, pos, after, guard } = bigStore 31 (ρ x) (ρ y) := rfl
@[go_sem ↓] theorem execOp_alloc_tl : execOp ρ { dst, op := .alloc 31, type := ty, pos, after, guard } = bigAlloc 31 := rfl
@[go_sem ↓] theorem execOp_box_tl (x : Operand) : execOp ρ { dst, op := .box 31 x, type := ty, pos, after, guard } = bigBox 31 (ρ x) := rfl
end
theorem info_tl : (Tryd.prog.info? 31).map (fun i => (i.zero, i.size)) = some (some (.agg (tkA 0 0 0 ⟨#[]⟩)), 4) := by kernel_rfl
theorem sizeT_tl : (Tryd.prog.info? 31).map (·.size) = some 4 := (zero_of_info info_tl).2
@[go_sem] theorem run_load_tl (w : World) (g : Nat) (h : rowL w g = true) (hs : (rowAt w g).size = 4) : (bigLoad 31 (.pointer (some ⟨g, 0, none⟩))).run Tryd.prog w = .ok (.value (.agg (rowAt w g))) w := by
  rw [run_bigLoad 31 _ 4 Tryd.underlying31 rfl sizeT_tl w g 0 h (by omega), Nat.zero_add, Array.extract_eq_self_of_le (by omega)]
@[go_sem] theorem run_store_tl (w : World) (g : Nat) (c : Array Value) (h : rowL w g = true) (hs : (rowAt w g).size = 4) (hc : c.size = 4) (h1 : OneC c = true) : (bigStore 31 (.pointer (some ⟨g, 0, none⟩)) (.agg c)).run Tryd.prog w = .ok .skip (w.setRow g c) := by
  rw [run_bigStore 31 4 sizeT_tl w g 0 c h hc (by omega) h1, layC_all _ _ (by omega)]
@[go_sem] theorem run_alloc_tl (w : World) : (bigAlloc 31).run Tryd.prog w = .ok (.value (.pointer (some ⟨w.heap.size, 0, none⟩))) (w.alloc (.cells (tkA 0 0 0 ⟨#[]⟩) 31)) := by
  simp only [bigAlloc, Instr.alloc, Sem.run_bind, (zero_of_info info_tl).1 w, Result.andThen_ok]
  rfl
@[go_sem] theorem run_box_tl (w : World) (c : Array Value) : (bigBox 31 (.agg c)).run Tryd.prog w = .ok (.value (.pointer (some ⟨w.heap.size, 0, none⟩))) (w.alloc (.cells c 31)) := run_bigBox _ c w
/-- Two results: a token out of its variable, and a second one. -/
theorem tl_bodyPost2 {fn : Func} {R : Ending → World → Prop} {a : Act} {w : World} (p q n : Nat) (c : Array Value) (hres : fn.results = #[.cell p 31, .tmp q]) (hp : a.tmps.getD p undef = .pointer (some ⟨n, 0, none⟩)) (hd : a.defers = [])
    (hok : RowC w n c) (hc : c.size = 4) (h : R (.returned (.tuple #[.agg c, a.tmps.getD q undef])) w) : bodyPost Tryd.prog fn R .ret a w := by
  obtain ⟨t, hg⟩ := row_of_L hok.1
  rw [hok.2] at hg
  have hp' : a.tmps[p]?.getD undef = .pointer (some ⟨n, 0, none⟩) := by simpa using hp
  have hl := run_loadVar_row (P := Tryd.prog) w n t 31 c (0, 0) _ hg Tryd.underlying31 rfl (by rw [sizeT_tl, hc])
  refine bodyPost_ret (v := .tuple #[.agg c, a.tmps.getD q undef]) ?_ hd h
  simp [results, hres, hp', asAddr, hl]
theorem Bd.later {B b : Nat} {l : List UInt8} {w w' : World} (h : Bd B b l w) (hb : Below w.heap.size w w') : Bd B b l w' := by
  have hlt := h.lt
  rcases h with ⟨hB, v, hv, hown, hne⟩ | ⟨hB, v, hv, hown, hne⟩
  · exact .inl ⟨hB, v, (hb.block b hlt).trans hv, hown.kept (row := none) ⟨hb.os, hb.tape, hb.output, hb.size, fun k hk _ => hb.block k hk⟩ (Classical.em _), hne⟩
  · exact .inr ⟨hB, v, (hb.block b hlt).trans hv, hown.kept (row := none) ⟨hb.os, hb.tape, hb.output, hb.size, fun k hk _ => hb.block k hk⟩ (Classical.em _), hne⟩
theorem iter_later {w w' : World} {k : Nat} {s : ByteArray} {pos : Nat} (hk : w.heap[k]? = some (.stringIter s pos)) (hb : Below w.heap.size w w') : w'.heap[k]? = some (.stringIter s pos) := by
  rw [hb.block k (Array.getElem?_eq_some_iff.1 hk).1]; exact hk
/-- A rune at the front is this ASCII sign just if the byte there is. -/
theorem rn_ascii (x : List UInt8) (hx : 0 < x.length) (h : (lB x 0).toNat < 128) : rn x = ((lB x 0).toNat, 1) := by rw [rn_b x _ (by omega) rfl, if_pos h]
theorem rn_high (x : List UInt8) (hx : 0 < x.length) (h : ¬ (lB x 0).toNat < 128) : 128 ≤ (stR (rn x)).1 := by
  have hb : inWv (stR (rn x)).1 = inWv (stR (rn x)).1 := rfl
  unfold stR
  split
  · show 128 ≤ 65533; omega
  · rename_i h0
    obtain ⟨ht, hv, hn⟩ := enc_rn x (rn x).1 (rn x).2 rfl h0
    rcases Nat.lt_or_ge (rn x).1 128 with h1 | h1
    · exfalso
      rw [enc_small _ h1] at ht
      have hn1 : (rn x).2 = 1 := by
        have := congrArg List.length ht
        rw [List.length_take] at this
        simp at this
        omega
      rw [hn1, take1 x hx] at ht
      have h5 : lB x 0 = u8 (rn x).1 := (List.cons.inj ht).1
      have h6 := congrArg UInt8.toNat h5
      rw [u8_at (rn x).1 (by omega)] at h6
      omega
    · exact h1
theorem rn_sign (x : List UInt8) (hx : 0 < x.length) (c : UInt8) (hc : c.toNat < 128) : (stR (rn x)).1 = c.toNat ↔ lB x 0 = c := by
  by_cases h : (lB x 0).toNat < 128
  · rw [rn_ascii x hx h]
    show (lB x 0).toNat = c.toNat ↔ _
    exact UInt8.toNat_inj
  · have := rn_high x hx h
    constructor
    · intro e; omega
    · intro e; rw [e] at h; exact absurd hc h
theorem hexV_ascii (b : UInt8) (h : ¬ hexV b < 0) : b.toNat < 128 := by
  unfold hexV at h
  split at h
  · omega
  · split at h
    · omega
    · split at h
      · omega
      · exact absurd (by omega) h
theorem hx_digits (l : List UInt8) : ∀ k v, hx l k = some v → ∀ j, j < k → (lB l (2 + j)).toNat < 128
  | 0, _, _, j, hj => by omega
  | k + 1, v, h, j, hj => by
    rw [hx] at h
    split at h
    · cases h
    · rename_i u hu
      split at h
      · cases h
      · rename_i h9
        rcases Nat.lt_or_ge j k with h1 | h1
        · exact hx_digits l k u hu j h1
        · obtain rfl : j = k := by omega
          exact hexV_ascii _ h9
theorem escAt_sign (b : UInt8) : ∀ n i j, escAt b n i = some j → b = lB escSigns j
  | 0, _, _, h => by cases h
  | n + 1, i, j, h => by
    rw [escAt] at h
    split at h
    · rename_i h1
      cases h
      exact h1
    · exact escAt_sign b n (i + 1) j h
theorem signs_ascii (j : Nat) : (lB escSigns j).toNat < 128 := by
  rcases Nat.lt_or_ge j 8 with h | h
  · revert h; revert j; decide
  · unfold lB escSigns
    rw [List.getElem?_eq_none (by simpa using h)]
    decide
/-- All signs of an escape behind the backslash are ASCII. -/
theorem esc_ascii (x : List UInt8) (h : (escS x).2 ≠ 0) (j : Nat) (h0 : 0 < j) (hj : j < (escS x).2) : (lB x j).toNat < 128 := by
  have hU : escS x = escU x → (lB x j).toNat < 128 := fun e => by
    rw [e] at h hj
    unfold escU at h hj
    split at h
    · exact absurd rfl h
    · rename_i h1
      rw [if_neg h1] at hj
      have h117 : lB x 1 = 117 := Classical.not_not.1 fun e => h1 (.inr e)
      cases hq : hx x 4 with
      | none => rw [hq] at h; exact absurd rfl h
      | some v =>
        simp only [hq] at h hj
        split at h
        · exact absurd rfl h
        · rename_i h2
          rw [if_neg h2] at hj
          rcases (by omega : j = 1 ∨ (2 ≤ j ∧ j < 6)) with rfl | ⟨h3, h4⟩
          · rw [h117]; decide
          · have := hx_digits x 4 v hq (j - 2) (by omega)
            rwa [show 2 + (j - 2) = j by omega] at this
  by_cases h1 : 1 < x.length
  · cases he : escAt (lB x 1) 8 0 with
    | none => exact hU (by unfold escS; rw [if_pos h1, he])
    | some i =>
      have e : escS x = ([lB escMeans i], 2) := by unfold escS; rw [if_pos h1, he]
      rw [e] at hj
      obtain rfl : j = 1 := by have : j < 2 := hj; omega
      rw [escAt_sign _ 8 0 i he]
      exact signs_ascii i
  · exact hU (by unfold escS; rw [if_neg h1])
theorem txt_go (l : List UInt8) (f k : Nat) (out : List UInt8) (h : k < l.length) : txt l (f + 1) k out = if lB l k = 34 then (out, k + 1) else if (piece (l.drop k)).2 = 0 then ([], 0) else txt l f (k + (piece (l.drop k)).2) (out ++ (piece (l.drop k)).1) := by
  rw [txt, if_pos h]
theorem txt_end (l : List UInt8) (f k : Nat) (out : List UInt8) (h : ¬ k < l.length) : txt l f k out = ([], 0) := by
  cases f with
  | zero => rfl
  | succ f => rw [txt, if_neg h]
theorem rn_zero (x : List UInt8) (h : (rn x).2 = 0) : (rn x).1 = 0 := by
  unfold rn at h ⊢
  have hN : ∀ n v, n ≠ 0 → (rnN x n v).2 = 0 → (rnN x n v).1 = 0 := fun n v hn h => by
    unfold rnN at h ⊢
    split
    · rfl
    · rename_i h1
      rw [if_neg h1] at h
      cases hc : cvR x v (n - 1) with
      | none => rfl
      | some u =>
        simp only [hc] at h ⊢
        split
        · rename_i h2
          rw [if_pos h2] at h
          exact absurd h hn
        · rfl
  split
  · rfl
  · rename_i h1
    rw [if_neg h1] at h
    split
    · rename_i h2; rw [if_pos h2] at h; exact absurd h (by simp)
    · rename_i h2
      rw [if_neg h2] at h
      split
      · rename_i h3; rw [if_pos h3] at h; exact hN _ _ (by omega) h
      · rename_i h3
        rw [if_neg h3] at h
        split
        · rename_i h4; rw [if_pos h4] at h; exact hN _ _ (by omega) h
        · rename_i h4
          rw [if_neg h4] at h
          split
          · rename_i h5; rw [if_pos h5] at h; exact hN _ _ (by omega) h
          · rfl
/-- A piece that is no escape. -/
theorem piece_plain (x : List UInt8) (h92 : lB x 0 ≠ 92) : piece x = if (rn x).1 < 32 then (x.take (rn x).2, 0) else (x.take (rn x).2, (rn x).2) := by
  unfold piece
  rw [if_neg h92]
theorem piece_esc (x : List UInt8) (h92 : lB x 0 = 92) : piece x = escS x := by
  unfold piece
  rw [if_pos h92]
end Go.Proofs.YtiokdcffpnjkcaaDoor
