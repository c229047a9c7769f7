
import Derived.Test.YtiokdcffpnjkcaaDoorLxq
import Derived.Lib.QuoteBits
namespace Go.Proofs.YtiokdcffpnjkcaaDoor
open Go.RowKit

/-! lex.writeQuoted -/
theorem BdP.trans {B b : Nat} {l m : List UInt8} {w w1 w2 : World} (h : BdP B b l w w1) (k : BdP B b m w1 w2) : BdP B b m w w2 := ⟨k.1, h.2.1.trans k.2.1, h.2.2.trans k.2.2⟩
theorem BdP.size {B b : Nat} {l : List UInt8} {w w1 : World} (h : BdP B b l w w1) (hB : B ≤ w.heap.size) : B ≤ w1.heap.size := Nat.le_trans hB h.2.1.size

theorem run_sAtK (w : World) (kd : IntKind) (s : ByteArray) (k : Nat) (h : k < s.size) : (sAt (.string s) (.int kd (k : Int))).run Tryd.prog w = .ok (.value (.int .u8 ((lB (lS s) k).toNat : Int))) w := by
  have hg : s[k]? = some (lB (lS s) k) := by
    rw [getElem?_pos s k h]
    unfold lB lS
    have h2 : k < s.data.size := h
    rw [Array.getElem?_toList, Array.getElem?_eq_getElem h2]; rfl
  have hi : (k : Int) < (s.size : Int) := by omega
  simp [sAt, Instr.index, run_underlying Tryd.underlying9, asIntOf, hg]
theorem run_dg16 (w : World) (n : Nat) (h : n < 16) : (sAt (.string ⟨#[48, 49, 50, 51, 52, 53, 54, 55, 56, 57, 97, 98, 99, 100, 101, 102]⟩) (.int .i32 (n : Int))).run Tryd.prog w = .ok (.value (.int .u8 ((dgC n).toNat : Int))) w := by
  rw [run_sAtK w .i32 _ n (by show n < 16; exact h), ← dgC_at n h]
  rfl

set_option linter.unusedSimpArgs false in
set_option maxRecDepth 100000 in
set_option maxHeartbeats 4000000 in
theorem wq34 (B b : Nat) (l : List UInt8) (v : Nat) (w : World) (h : Bd B b l w) (hl : l.length + 6 ≤ 140737488355328) (hB : B ≤ w.heap.size) (hv : v = 34) : Calls Tryd.prog 17 #[.pointer (some ⟨b, 0, none⟩), .int .i32 (v : Int)] w fun e w' => e = .returned (.tuple #[]) ∧ BdP B b (l ++ [92, 34]) w w' := by
  have c0 : ((v : Int) == 34) = true := beq_iff_eq.2 (by omega)
  have c1 : ((v : Int) == 92) = false := beq_eq_false_iff_ne.2 (by omega)
  have c2 : ((v : Int) == 8) = false := beq_eq_false_iff_ne.2 (by omega)
  have c3 : ((v : Int) == 12) = false := beq_eq_false_iff_ne.2 (by omega)
  have c4 : ((v : Int) == 10) = false := beq_eq_false_iff_ne.2 (by omega)
  have c5 : ((v : Int) == 13) = false := beq_eq_false_iff_ne.2 (by omega)
  have c6 : ((v : Int) == 9) = false := beq_eq_false_iff_ne.2 (by omega)
  have k1 := bdWB B b l 92 w h (by omega) hB
  have k2 := fun W hw hs => bdWR B b (l ++ [92]) v (by rw [hv]; exact ⟨by omega, by omega⟩) W hw (by simp; omega) hs
  have he : enc v = [34] := by rw [hv]; rfl
  rw [show l ++ [92, 34] = (l ++ [92]) ++ [34] by simp]
  simp only [he] at k2
  clear hv he
  go_enter Tryd.func17, Tryd.ntmps17
  go_wp2_with fail
  refine k1.mono ?_
  rintro e w1 ⟨rfl, h1⟩
  go_wp2_with fail
  refine (k2 _ h1.1 (h1.size hB)).mono ?_
  rintro e w2 ⟨⟨n, rfl⟩, h2⟩
  go_wp2
  go_end0
  exact ⟨rfl, h1.trans h2⟩
set_option linter.unusedSimpArgs false in
set_option maxRecDepth 100000 in
set_option maxHeartbeats 4000000 in
theorem wq92 (B b : Nat) (l : List UInt8) (v : Nat) (w : World) (h : Bd B b l w) (hl : l.length + 6 ≤ 140737488355328) (hB : B ≤ w.heap.size) (hv : v = 92) : Calls Tryd.prog 17 #[.pointer (some ⟨b, 0, none⟩), .int .i32 (v : Int)] w fun e w' => e = .returned (.tuple #[]) ∧ BdP B b (l ++ [92, 92]) w w' := by
  have c0 : ((v : Int) == 34) = false := beq_eq_false_iff_ne.2 (by omega)
  have c1 : ((v : Int) == 92) = true := beq_iff_eq.2 (by omega)
  have c2 : ((v : Int) == 8) = false := beq_eq_false_iff_ne.2 (by omega)
  have c3 : ((v : Int) == 12) = false := beq_eq_false_iff_ne.2 (by omega)
  have c4 : ((v : Int) == 10) = false := beq_eq_false_iff_ne.2 (by omega)
  have c5 : ((v : Int) == 13) = false := beq_eq_false_iff_ne.2 (by omega)
  have c6 : ((v : Int) == 9) = false := beq_eq_false_iff_ne.2 (by omega)
  have k1 := bdWB B b l 92 w h (by omega) hB
  have k2 := fun W hw hs => bdWR B b (l ++ [92]) v (by rw [hv]; exact ⟨by omega, by omega⟩) W hw (by simp; omega) hs
  have he : enc v = [92] := by rw [hv]; rfl
  rw [show l ++ [92, 92] = (l ++ [92]) ++ [92] by simp]
  simp only [he] at k2
  clear hv he
  go_enter Tryd.func17, Tryd.ntmps17
  go_wp2_with fail
  refine k1.mono ?_
  rintro e w1 ⟨rfl, h1⟩
  go_wp2_with fail
  refine (k2 _ h1.1 (h1.size hB)).mono ?_
  rintro e w2 ⟨⟨n, rfl⟩, h2⟩
  go_wp2
  go_end0
  exact ⟨rfl, h1.trans h2⟩
set_option linter.unusedSimpArgs false in
set_option maxRecDepth 100000 in
set_option maxHeartbeats 4000000 in
theorem wq8 (B b : Nat) (l : List UInt8) (v : Nat) (w : World) (h : Bd B b l w) (hl : l.length + 6 ≤ 140737488355328) (hB : B ≤ w.heap.size) (hv : v = 8) : Calls Tryd.prog 17 #[.pointer (some ⟨b, 0, none⟩), .int .i32 (v : Int)] w fun e w' => e = .returned (.tuple #[]) ∧ BdP B b (l ++ [92, 98]) w w' := by
  have c0 : ((v : Int) == 34) = false := beq_eq_false_iff_ne.2 (by omega)
  have c1 : ((v : Int) == 92) = false := beq_eq_false_iff_ne.2 (by omega)
  have c2 : ((v : Int) == 8) = true := beq_iff_eq.2 (by omega)
  have c3 : ((v : Int) == 12) = false := beq_eq_false_iff_ne.2 (by omega)
  have c4 : ((v : Int) == 10) = false := beq_eq_false_iff_ne.2 (by omega)
  have c5 : ((v : Int) == 13) = false := beq_eq_false_iff_ne.2 (by omega)
  have c6 : ((v : Int) == 9) = false := beq_eq_false_iff_ne.2 (by omega)
  have k1 := bdWS B b l [92, 98] ⟨#[92, 98]⟩ rfl w h (by simp; omega) hB
  clear hv
  go_enter Tryd.func17, Tryd.ntmps17
  go_wp2_with fail
  refine k1.mono ?_
  rintro e w1 ⟨rfl, h1⟩
  go_wp2
  go_end0
  exact ⟨rfl, h1⟩
set_option linter.unusedSimpArgs false in
set_option maxRecDepth 100000 in
set_option maxHeartbeats 4000000 in
theorem wq12 (B b : Nat) (l : List UInt8) (v : Nat) (w : World) (h : Bd B b l w) (hl : l.length + 6 ≤ 140737488355328) (hB : B ≤ w.heap.size) (hv : v = 12) : Calls Tryd.prog 17 #[.pointer (some ⟨b, 0, none⟩), .int .i32 (v : Int)] w fun e w' => e = .returned (.tuple #[]) ∧ BdP B b (l ++ [92, 102]) w w' := by
  have c0 : ((v : Int) == 34) = false := beq_eq_false_iff_ne.2 (by omega)
  have c1 : ((v : Int) == 92) = false := beq_eq_false_iff_ne.2 (by omega)
  have c2 : ((v : Int) == 8) = false := beq_eq_false_iff_ne.2 (by omega)
  have c3 : ((v : Int) == 12) = true := beq_iff_eq.2 (by omega)
  have c4 : ((v : Int) == 10) = false := beq_eq_false_iff_ne.2 (by omega)
  have c5 : ((v : Int) == 13) = false := beq_eq_false_iff_ne.2 (by omega)
  have c6 : ((v : Int) == 9) = false := beq_eq_false_iff_ne.2 (by omega)
  have k1 := bdWS B b l [92, 102] ⟨#[92, 102]⟩ rfl w h (by simp; omega) hB
  clear hv
  go_enter Tryd.func17, Tryd.ntmps17
  go_wp2_with fail
  refine k1.mono ?_
  rintro e w1 ⟨rfl, h1⟩
  go_wp2
  go_end0
  exact ⟨rfl, h1⟩
set_option linter.unusedSimpArgs false in
set_option maxRecDepth 100000 in
set_option maxHeartbeats 4000000 in
theorem wq10 (B b : Nat) (l : List UInt8) (v : Nat) (w : World) (h : Bd B b l w) (hl : l.length + 6 ≤ 140737488355328) (hB : B ≤ w.heap.size) (hv : v = 10) : Calls Tryd.prog 17 #[.pointer (some ⟨b, 0, none⟩), .int .i32 (v : Int)] w fun e w' => e = .returned (.tuple #[]) ∧ BdP B b (l ++ [92, 110]) w w' := by
  have c0 : ((v : Int) == 34) = false := beq_eq_false_iff_ne.2 (by omega)
  have c1 : ((v : Int) == 92) = false := beq_eq_false_iff_ne.2 (by omega)
  have c2 : ((v : Int) == 8) = false := beq_eq_false_iff_ne.2 (by omega)
  have c3 : ((v : Int) == 12) = false := beq_eq_false_iff_ne.2 (by omega)
  have c4 : ((v : Int) == 10) = true := beq_iff_eq.2 (by omega)
  have c5 : ((v : Int) == 13) = false := beq_eq_false_iff_ne.2 (by omega)
  have c6 : ((v : Int) == 9) = false := beq_eq_false_iff_ne.2 (by omega)
  have k1 := bdWS B b l [92, 110] ⟨#[92, 110]⟩ rfl w h (by simp; omega) hB
  clear hv
  go_enter Tryd.func17, Tryd.ntmps17
  go_wp2_with fail
  refine k1.mono ?_
  rintro e w1 ⟨rfl, h1⟩
  go_wp2
  go_end0
  exact ⟨rfl, h1⟩
set_option linter.unusedSimpArgs false in
set_option maxRecDepth 100000 in
set_option maxHeartbeats 4000000 in
theorem wq13 (B b : Nat) (l : List UInt8) (v : Nat) (w : World) (h : Bd B b l w) (hl : l.length + 6 ≤ 140737488355328) (hB : B ≤ w.heap.size) (hv : v = 13) : Calls Tryd.prog 17 #[.pointer (some ⟨b, 0, none⟩), .int .i32 (v : Int)] w fun e w' => e = .returned (.tuple #[]) ∧ BdP B b (l ++ [92, 114]) w w' := by
  have c0 : ((v : Int) == 34) = false := beq_eq_false_iff_ne.2 (by omega)
  have c1 : ((v : Int) == 92) = false := beq_eq_false_iff_ne.2 (by omega)
  have c2 : ((v : Int) == 8) = false := beq_eq_false_iff_ne.2 (by omega)
  have c3 : ((v : Int) == 12) = false := beq_eq_false_iff_ne.2 (by omega)
  have c4 : ((v : Int) == 10) = false := beq_eq_false_iff_ne.2 (by omega)
  have c5 : ((v : Int) == 13) = true := beq_iff_eq.2 (by omega)
  have c6 : ((v : Int) == 9) = false := beq_eq_false_iff_ne.2 (by omega)
  have k1 := bdWS B b l [92, 114] ⟨#[92, 114]⟩ rfl w h (by simp; omega) hB
  clear hv
  go_enter Tryd.func17, Tryd.ntmps17
  go_wp2_with fail
  refine k1.mono ?_
  rintro e w1 ⟨rfl, h1⟩
  go_wp2
  go_end0
  exact ⟨rfl, h1⟩
set_option linter.unusedSimpArgs false in
set_option maxRecDepth 100000 in
set_option maxHeartbeats 4000000 in
theorem wq9 (B b : Nat) (l : List UInt8) (v : Nat) (w : World) (h : Bd B b l w) (hl : l.length + 6 ≤ 140737488355328) (hB : B ≤ w.heap.size) (hv : v = 9) : Calls Tryd.prog 17 #[.pointer (some ⟨b, 0, none⟩), .int .i32 (v : Int)] w fun e w' => e = .returned (.tuple #[]) ∧ BdP B b (l ++ [92, 116]) w w' := by
  have c0 : ((v : Int) == 34) = false := beq_eq_false_iff_ne.2 (by omega)
  have c1 : ((v : Int) == 92) = false := beq_eq_false_iff_ne.2 (by omega)
  have c2 : ((v : Int) == 8) = false := beq_eq_false_iff_ne.2 (by omega)
  have c3 : ((v : Int) == 12) = false := beq_eq_false_iff_ne.2 (by omega)
  have c4 : ((v : Int) == 10) = false := beq_eq_false_iff_ne.2 (by omega)
  have c5 : ((v : Int) == 13) = false := beq_eq_false_iff_ne.2 (by omega)
  have c6 : ((v : Int) == 9) = true := beq_iff_eq.2 (by omega)
  have k1 := bdWS B b l [92, 116] ⟨#[92, 116]⟩ rfl w h (by simp; omega) hB
  clear hv
  go_enter Tryd.func17, Tryd.ntmps17
  go_wp2_with fail
  refine k1.mono ?_
  rintro e w1 ⟨rfl, h1⟩
  go_wp2
  go_end0
  exact ⟨rfl, h1⟩
set_option linter.unusedSimpArgs false in
set_option maxRecDepth 100000 in
set_option maxHeartbeats 4000000 in
theorem wqOther (B b : Nat) (l : List UInt8) (v : Nat) (w : World) (h : Bd B b l w) (hl : l.length + 6 ≤ 140737488355328) (hB : B ≤ w.heap.size) (hv : vR v) (h32 : 32 ≤ v) (h34 : v ≠ 34) (h92 : v ≠ 92) : Calls Tryd.prog 17 #[.pointer (some ⟨b, 0, none⟩), .int .i32 (v : Int)] w fun e w' => e = .returned (.tuple #[]) ∧ BdP B b (l ++ enc v) w w' := by
  have c0 : ((v : Int) == 34) = false := beq_eq_false_iff_ne.2 (by omega)
  have c1 : ((v : Int) == 92) = false := beq_eq_false_iff_ne.2 (by omega)
  have c2 : ((v : Int) == 8) = false := beq_eq_false_iff_ne.2 (by omega)
  have c3 : ((v : Int) == 12) = false := beq_eq_false_iff_ne.2 (by omega)
  have c4 : ((v : Int) == 10) = false := beq_eq_false_iff_ne.2 (by omega)
  have c5 : ((v : Int) == 13) = false := beq_eq_false_iff_ne.2 (by omega)
  have c6 : ((v : Int) == 9) = false := beq_eq_false_iff_ne.2 (by omega)
  have c8 : ¬ (v : Int) < 32 := by omega
  have k1 := bdWR B b l v hv w h (by omega) hB
  clear hv h32 h34 h92
  go_enter Tryd.func17, Tryd.ntmps17
  go_wp2_with fail
  refine k1.mono ?_
  rintro e w1 ⟨⟨n, rfl⟩, h1⟩
  go_wp2
  go_end0
  exact ⟨rfl, h1⟩
set_option linter.unusedSimpArgs false in
set_option maxRecDepth 100000 in
set_option maxHeartbeats 4000000 in
theorem wqLow (B b : Nat) (l : List UInt8) (v : Nat) (w : World) (h : Bd B b l w) (hl : l.length + 6 ≤ 140737488355328) (hB : B ≤ w.heap.size) (h32 : v < 32) (h8 : v ≠ 8) (h12 : v ≠ 12) (h10 : v ≠ 10) (h13 : v ≠ 13) (h9 : v ≠ 9) : Calls Tryd.prog 17 #[.pointer (some ⟨b, 0, none⟩), .int .i32 (v : Int)] w fun e w' => e = .returned (.tuple #[]) ∧ BdP B b (l ++ [92, 117, 48, 48, dgC (v / 16), dgC (v % 16)]) w w' := by
  have c0 : ((v : Int) == 34) = false := beq_eq_false_iff_ne.2 (by omega)
  have c1 : ((v : Int) == 92) = false := beq_eq_false_iff_ne.2 (by omega)
  have c2 : ((v : Int) == 8) = false := beq_eq_false_iff_ne.2 (by omega)
  have c3 : ((v : Int) == 12) = false := beq_eq_false_iff_ne.2 (by omega)
  have c4 : ((v : Int) == 10) = false := beq_eq_false_iff_ne.2 (by omega)
  have c5 : ((v : Int) == 13) = false := beq_eq_false_iff_ne.2 (by omega)
  have c6 : ((v : Int) == 9) = false := beq_eq_false_iff_ne.2 (by omega)
  have c8 : (v : Int) < 32 := by omega
  have k1 := bdWS B b l [92, 117, 48, 48] ⟨#[92, 117, 48, 48]⟩ rfl w h (by simp; omega) hB
  have k2 := fun W hw hs => bdWB B b (l ++ [92, 117, 48, 48]) (dgC (v / 16)) W hw (by simp; omega) hs
  have k3 := fun W hw hs => bdWB B b (l ++ [92, 117, 48, 48] ++ [dgC (v / 16)]) (dgC (v % 16)) W hw (by simp; omega) hs
  rw [show l ++ [92, 117, 48, 48, dgC (v / 16), dgC (v % 16)] = l ++ [92, 117, 48, 48] ++ [dgC (v / 16)] ++ [dgC (v % 16)] by simp]
  have g1 : ∀ W, (sAt (.string ⟨#[48, 49, 50, 51, 52, 53, 54, 55, 56, 57, 97, 98, 99, 100, 101, 102]⟩) (.int .i32 ((v : Int) / 16))).run Tryd.prog W = .ok (.value (.int .u8 ((dgC (v / 16)).toNat : Int))) W := fun W => by have h9 := run_dg16 W (v / 16) (by omega); rwa [show (((v / 16 : Nat) : Nat) : Int) = (v : Int) / 16 from by omega] at h9
  have g2 : ∀ W, (sAt (.string ⟨#[48, 49, 50, 51, 52, 53, 54, 55, 56, 57, 97, 98, 99, 100, 101, 102]⟩) (.int .i32 (bits .and .i32 (v : Int) 15))).run Tryd.prog W = .ok (.value (.int .u8 ((dgC (v % 16)).toNat : Int))) W := fun W => by have h9 := run_dg16 W (v % 16) (by omega); rwa [← Lib.and15_i32 v (by omega)] at h9
  generalize dgC (v / 16) = d1 at k2 k3 g1 ⊢
  generalize dgC (v % 16) = d2 at k3 g2 ⊢
  clear h8 h12 h10 h13 h9
  go_enter Tryd.func17, Tryd.ntmps17
  go_wp2_with fail
  refine k1.mono ?_
  rintro e w1 ⟨rfl, h1⟩
  go_wp2_with fail
  refine (k2 _ h1.1 (h1.size hB)).mono ?_
  rintro e w2 ⟨rfl, h2⟩
  go_wp2_with fail
  refine (k3 _ h2.1 (h2.size (h1.size hB))).mono ?_
  rintro e w3 ⟨rfl, h3⟩
  go_wp2
  go_end0
  exact ⟨rfl, (h1.trans h2).trans h3⟩
theorem writeQuoted_any (B b : Nat) (l : List UInt8) (v : Nat) (hv : vR v) (w : World) (h : Bd B b l w) (hl : l.length + 6 ≤ 140737488355328) (hB : B ≤ w.heap.size) :
    Calls Tryd.prog 17 #[.pointer (some ⟨b, 0, none⟩), .int .i32 (v : Int)] w fun e w' => e = .returned (.tuple #[]) ∧ BdP B b (l ++ quo v) w w' := by
  rcases qAt_cases v with ⟨h0, h1, h2, h3, h4, h5, h6, h7⟩ | e | e | e | e | e | e | e
  · by_cases h32 : v < 32
    · have := wqLow B b l v w h hl hB h32 h3 h4 h5 h6 h7
      rw [show quo v = [92, 117, 48, 48, dgC (v / 16), dgC (v % 16)] by rw [quo_R, h0]; unfold quoR; simp [h32]]
      exact this
    · have := wqOther B b l v w h hl hB hv (by omega) h1 h2
      rw [show quo v = enc v by rw [quo_R, h0]; unfold quoR; simp [h32]]
      exact this
  · rw [show quo v = [92, 34] by rw [e]; decide]; exact wq34 B b l v w h hl hB e
  · rw [show quo v = [92, 92] by rw [e]; decide]; exact wq92 B b l v w h hl hB e
  · rw [show quo v = [92, 98] by rw [e]; decide]; exact wq8 B b l v w h hl hB e
  · rw [show quo v = [92, 102] by rw [e]; decide]; exact wq12 B b l v w h hl hB e
  · rw [show quo v = [92, 110] by rw [e]; decide]; exact wq10 B b l v w h hl hB e
  · rw [show quo v = [92, 114] by rw [e]; decide]; exact wq13 B b l v w h hl hB e
  · rw [show quo v = [92, 116] by rw [e]; decide]; exact wq9 B b l v w h hl hB e
end Go.Proofs.YtiokdcffpnjkcaaDoor
