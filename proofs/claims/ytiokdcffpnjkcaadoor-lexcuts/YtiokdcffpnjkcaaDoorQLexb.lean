import Derived.Test.YtiokdcffpnjkcaaDoorQLexa
import Derived.Lib.SmallJoins
namespace Go.Proofs.YtiokdcffpnjkcaaDoor
open Go.RowKit

/-! assaylaw14's known, LexQuotes -/
theorem below_mark14 (w : World) (C : Array Value) (t : TypeId) (m : Nat × Nat) : Below w.heap.size w (w.alloc (.cells C t m)) := below_alloc w _
theorem isB_mark14 (w : World) (l : List UInt8) (n : Nat) (m : Nat × Nat) (hn : l.length = n) : IsB (w.alloc (.cells (bytesA l) 5 m)) (.slice (some ⟨w.heap.size, 0, none⟩) n n) l := by
  subst hn
  refine .inr ⟨⟨w.heap.size, 0, none⟩, l.length, rfl, fun i hi => ?_⟩
  rw [addr_add, Nat.zero_add, World.cell?_alloc_mark, bytesA_get l i hi]
set_option linter.unusedSimpArgs false in
set_option maxRecDepth 100000 in
set_option maxHeartbeats 8000000 in
theorem known14_any (O : LexOk) (w : World) (hV : Vx w) : Calls Tryd.prog 8 #[] w fun e w' => e = .returned (.bool true) ∧ Below w.heap.size w w' := by
  have hc1 := Joins.run_convert_bytes_const_at (P := Tryd.prog) w 29 5 #[.int .u8 123, .int .u8 34, .int .u8 97, .int .u8 34, .int .u8 58, .int .u8 32, .int .u8 91, .int .u8 49, .int .u8 44, .int .u8 32, .int .u8 116, .int .u8 114, .int .u8 117, .int .u8 101, .int .u8 93, .int .u8 125] 16 16 w.heap.size rfl (by kernel_rfl) (by kernel_rfl)
  simp only [List.size_toArray, List.length_cons, List.length_nil, Nat.reduceAdd] at hc1
  have b1 := below_mark14 w #[.int .u8 123, .int .u8 34, .int .u8 97, .int .u8 34, .int .u8 58, .int .u8 32, .int .u8 91, .int .u8 49, .int .u8 44, .int .u8 32, .int .u8 116, .int .u8 114, .int .u8 117, .int .u8 101, .int .u8 93, .int .u8 125] 5 (16, 17)
  have i1 : IsB (w.alloc (.cells #[.int .u8 123, .int .u8 34, .int .u8 97, .int .u8 34, .int .u8 58, .int .u8 32, .int .u8 91, .int .u8 49, .int .u8 44, .int .u8 32, .int .u8 116, .int .u8 114, .int .u8 117, .int .u8 101, .int .u8 93, .int .u8 125] 5 (16, 17))) (.slice (some ⟨w.heap.size, 0, none⟩) 16 16) kn16 := isB_mark14 w kn16 16 (16, 17) rfl
  generalize w.alloc (.cells #[.int .u8 123, .int .u8 34, .int .u8 97, .int .u8 34, .int .u8 58, .int .u8 32, .int .u8 91, .int .u8 49, .int .u8 44, .int .u8 32, .int .u8 116, .int .u8 114, .int .u8 117, .int .u8 101, .int .u8 93, .int .u8 125] 5 (16, 17)) = W1 at hc1 b1 i1
  have k1 := O.all kn16 (some ⟨w.heap.size, 0, none⟩) 16 16 W1 rfl (by omega) (by omega) i1 (hV.below b1)
  have k3 := fun W => O.quo ⟨#[1, 10]⟩ W (by show 2 ≤ _; omega)
  have e3 : lS ⟨#[1, 10]⟩ = [1, 10] := rfl
  unfold AllP at k1
  unfold QuP at k3
  simp only [e3, kn3_S, kn3_E] at k3
  rw [kn_L, kn_E, kn_P] at k1
  clear i1 e3
  go_enter Tryd.func8, Tryd.ntmps8
  go_wp2_with fail
  refine k1.mono ?_
  rintro e w1 ⟨⟨y, n, c, rfl, hO⟩, hb⟩
  have hB1 := b1.trans (hb.mono b1.size)
  obtain ⟨g, hg1, -⟩ := hO.form (by show 0 < 9; omega)
  subst hg1
  obtain rfl : n = 9 := by
    obtain ⟨x9, c9, he⟩ := (hO.isK tkEL_ok).len
    simp only [Value.slice.injEq] at he
    exact he.2.1
  clear k1 hc1 b1 hb
  have hc2 := Joins.run_convert_bytes_const_at (P := Tryd.prog) w1 29 5 #[.int .u8 91, .int .u8 97] 2 2 w1.heap.size rfl (by kernel_rfl) (by kernel_rfl)
  simp only [List.size_toArray, List.length_cons, List.length_nil, Nat.reduceAdd] at hc2
  have b2 := below_mark14 w1 #[.int .u8 91, .int .u8 97] 5 (2, 3)
  have i2 : IsB (w1.alloc (.cells #[.int .u8 91, .int .u8 97] 5 (2, 3))) (.slice (some ⟨w1.heap.size, 0, none⟩) 2 2) [91, 97] := isB_mark14 w1 [91, 97] 2 (2, 3) rfl
  have hO2 := hO.keep b2
  generalize w1.alloc (.cells #[.int .u8 91, .int .u8 97] 5 (2, 3)) = W2 at hc2 b2 i2 hO2
  have k2 := O.all [91, 97] (some ⟨w1.heap.size, 0, none⟩) 2 2 W2 rfl (by omega) (by omega) i2 (hV.below (hB1.trans (b2.mono hB1.size)))
  unfold AllP at k2
  rw [kn2_E, kn2_P] at k2
  clear i2 hO
  go_wp2_with fail
  refine k2.mono ?_
  rintro e w2 ⟨⟨y2, n2, c2, rfl, -⟩, hb⟩
  have hB2 := (hB1.trans (b2.mono hB1.size)).trans (hb.mono (Nat.le_trans hB1.size b2.size))
  have hO3 := hO2.keep hb
  clear k2 hc2 b2 hb hO2 hB1
  go_wp2_with fail
  refine (k3 _).mono ?_
  rintro e w3 ⟨rfl, hb⟩
  have hB3 := hB2.trans (hb.mono hB2.size)
  have hO4 := hO3.keep hb
  clear k3 hb hO3 hB2
  obtain ⟨a4, a5, a6, a7⟩ := tk_cells14 hO4 1 ⟨11, 1, 0, [97]⟩ rfl
  obtain ⟨-, -, a18, -⟩ := tk_cells14 hO4 4 ⟨10, 7, 1, []⟩ rfl
  obtain ⟨a32, -⟩ := tk_cells14 hO4 8 ⟨2, 15, 0, []⟩ rfl
  simp only [Nat.reduceMul, Nat.reduceAdd] at a4 a5 a6 a7 a18 a32
  clear hO4
  go_wp2
  go_ret
  exact ⟨rfl, hB3⟩
set_option linter.unusedSimpArgs false in
set_option maxRecDepth 100000 in
set_option maxHeartbeats 4000000 in
theorem lawLexQuotes_any (O : LexOk) (s : ByteArray) (w : World) (hV : Vx w) (h44 : s.size ≤ 17592186044416) : Calls Tryd.prog 5 #[.string s] w fun e w' => e = .returned (.bool true) ∧ Below w.heap.size w w' := by
  have k1 := fun W => O.quo s W h44
  have k2 := fun W => refQuote_any s W (by omega)
  have k3 := known14_any O
  unfold QuP at k1 k2
  obtain ⟨S, hS⟩ : ∃ q, ByteArray.mk (quS (lS s)).toArray = q := ⟨_, rfl⟩
  obtain ⟨E, hE⟩ : ∃ q, quE (lS s) = q := ⟨_, rfl⟩
  simp only [hS, hE] at k1 k2
  clear hS hE
  go_enter Tryd.func5, Tryd.ntmps5
  go_wp2_with fail
  refine (k1 _).mono ?_
  rintro e w1 ⟨rfl, hB1⟩
  clear k1
  go_wp2_with fail
  refine (k2 _).mono ?_
  rintro e w2 ⟨rfl, hb⟩
  have hB2 := hB1.trans (hb.mono hB1.size)
  clear k2 hb hB1
  go_wp2_with fail
  refine (k3 _ (hV.below hB2)).mono ?_
  rintro e w3 ⟨rfl, hb⟩
  have hB3 := hB2.trans (hb.mono hB2.size)
  clear k3 hb hB2
  go_wp2
  go_ret
  exact ⟨rfl, hB3⟩
end Go.Proofs.YtiokdcffpnjkcaaDoor
