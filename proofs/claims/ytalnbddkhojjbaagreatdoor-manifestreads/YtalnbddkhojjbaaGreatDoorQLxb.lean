import Derived.Test.YtalnbddkhojjbaaGreatDoorQLex9
import Derived.Test.YtalnbddkhojjbaaGreatDoorQLxl
import Derived.Lib.QuoteBits
namespace Go.Proofs.YtalnbddkhojjbaaGreatDoor
open Go.RowKit

def Bd (B b : Nat) (l : List UInt8) (w : World) : Prop := Lib.IsBuilderF 68 5 B b (Lib.byteCells l) w
def BdP (B b : Nat) (l : List UInt8) (w w' : World) : Prop := Bd B b l w' ∧ Below B w w' ∧ Lib.OthersKept 5 (some b) w w'
theorem Bd.fresh (w : World) : Bd w.heap.size w.heap.size [] (w.alloc (.cells #[.pointer none, .slice none 0 0] 68)) := Lib.IsBuilderF.of (Lib.fresh_isBuilder 68 5 w)
theorem bdWB (B b : Nat) (l : List UInt8) (c : UInt8) (w : World) (h : Bd B b l w) (hl : l.length + 1 ≤ 140737488355328) (hB : B ≤ w.heap.size) :
    Calls Tryz.prog 87 #[.pointer (some ⟨b, 0, none⟩), .int .u8 (c.toNat : Int)] w fun e w' => e = .returned .nilIface ∧ BdP B b (l ++ [c]) w w' :=
  (Any.Builder_WriteByte_k layWB layWB_x B b _ (c.toNat : Int) w h (by rw [Lib.byteCells_length]; exact hl) hB).mono fun e w' ⟨he, h1, h2, h3⟩ => ⟨he, by unfold Bd; rw [Lib.byteCells_append]; exact .inr h1, h2, h3⟩
theorem bdWS (B b : Nat) (l m : List UInt8) (s : ByteArray) (hs : lS s = m) (w : World) (h : Bd B b l w) (hl : l.length + m.length ≤ 140737488355328) (hB : B ≤ w.heap.size) :
    Calls Tryz.prog 55 #[.pointer (some ⟨b, 0, none⟩), .string s] w fun e w' => e = .returned (.tuple #[.int .i64 (m.length : Int), .nilIface]) ∧ BdP B b (l ++ m) w w' := by
  subst hs
  have hz : s.size = (lS s).length := (lS_len s).symm
  refine (Any.Builder_WriteString_k layWS layWS_x B b _ s w h (by rw [Lib.byteCells_length, hz]; exact hl) hB).mono fun e w' ⟨he, h1, h2, h3⟩ => ⟨by rw [he, hz], ?_, h2, h3⟩
  unfold Bd
  rw [Lib.byteCells_append]
  exact .inr h1
theorem bdWR (B b : Nat) (l : List UInt8) (v : Nat) (hv : vR v) (w : World) (h : Bd B b l w) (hl : l.length + 4 ≤ 140737488355328) (hB : B ≤ w.heap.size) :
    Calls Tryz.prog 114 #[.pointer (some ⟨b, 0, none⟩), .int .i32 (v : Int)] w fun e w' => (∃ n, e = .returned (.tuple #[.int .i64 n, .nilIface])) ∧ BdP B b (l ++ enc v) w w' := by
  have hv1 := hv.1
  refine (Any.Builder_WriteRune_k layWR layWR_x B b _ (v : Int) (by omega) (by omega) w h (by rw [Lib.byteCells_length]; exact hl) hB).mono fun e w' ⟨he, h1, h2, h3⟩ => ⟨⟨_, he⟩, ?_, h2, h3⟩
  unfold Bd
  rw [Lib.byteCells_append, ← enc_Z v hv, Lib.byteCells_encodeRune]
  exact .inr h1
theorem bdST (B b : Nat) (l : List UInt8) (w : World) (h : Bd B b l w) (hB : B ≤ w.heap.size) :
    Calls Tryz.prog 30 #[.pointer (some ⟨b, 0, none⟩)] w fun e w' => e = .returned (.string ⟨l.toArray⟩) ∧ BdP B b l w w' :=
  Any.Builder_String_any_k layBS layBS_x B b l w h hB
end Go.Proofs.YtalnbddkhojjbaaGreatDoor
namespace Go.Proofs.YtalnbddkhojjbaaGreatDoor
set_option linter.unusedSimpArgs false
open Go.RowKit

theorem hasErr (s : ByteArray) (w : World) : Calls Tryz.prog 118 #[.string s, .string ⟨#[239, 191, 189]⟩] w fun e w' => e = .returned (.bool (decide ((lS s).take 3 = [239, 191, 189]))) ∧ w' = w := by
  have hz3 : (ByteArray.mk #[239, 191, 189]).size = 3 := rfl
  have hl := lS_len s
  obtain ⟨r, hr⟩ : ∃ r, decide ((lS s).take 3 = [239, 191, 189]) = r := ⟨_, rfl⟩
  rw [hr]
  by_cases h3 : 3 ≤ s.size
  · have hi3 : (3 : Int) ≤ (s.size : Int) := by omega
    have hq : ∀ W, (sCut0 (.string s) (.int .i64 3)).run Tryz.prog W = .ok (.value (.string (s.extract 0 3))) W := fun W => run_sCut0 W s 3 h3
    have hx : lS (s.extract 0 3) = (lS s).take 3 := by rw [lS_cut]; rfl
    by_cases hf : (lS s).take 3 = [239, 191, 189]
    · have hx2 : ((s.extract 0 3).toList == [239, 191, 189]) = true := by have h := sEq14 (s := s.extract 0 3) (t := ⟨#[239, 191, 189]⟩) (by rw [hx, hf]; rfl); rwa [ByteArray.toList_eq ⟨#[239, 191, 189]⟩] at h
      obtain rfl : r = true := by rw [← hr]; simp [hf]
      clear hr hf hx hl
      generalize s.extract 0 3 = S7 at hx2 hq
      go_enter Tryz.func118, Tryz.ntmps118
      go_wp2
      go_ret
      exact ⟨rfl, rfl⟩
    · have hx2 : ((s.extract 0 3).toList == [239, 191, 189]) = false := by have h := sNe14 (s := s.extract 0 3) (t := ⟨#[239, 191, 189]⟩) (by rw [hx]; exact hf); rwa [ByteArray.toList_eq ⟨#[239, 191, 189]⟩] at h
      obtain rfl : r = false := by rw [← hr]; simp [hf]
      clear hr hf hx hl
      generalize s.extract 0 3 = S7 at hx2 hq
      go_enter Tryz.func118, Tryz.ntmps118
      go_wp2
      go_ret
      exact ⟨rfl, rfl⟩
  · have hi3 : ¬ (3 : Int) ≤ (s.size : Int) := by omega
    obtain rfl : r = false := by
      rw [← hr, decide_eq_false]
      intro h
      have := congrArg List.length h
      rw [List.length_take] at this
      simp at this
      omega
    clear hr hl
    go_enter Tryz.func118, Tryz.ntmps118
    go_wp2
    go_ret
    exact ⟨rfl, rfl⟩
theorem hasErr2 (s : ByteArray) (w : World) : Calls Tryz.prog 136 #[.string s, .string ⟨#[239, 191, 189]⟩] w fun e w' => e = .returned (.bool (decide ((lS s).take 3 = [239, 191, 189]))) ∧ w' = w := by
  have h := hasErr s
  generalize decide ((lS s).take 3 = [239, 191, 189]) = r at h ⊢
  go_enter Tryz.func136, Tryz.ntmps136
  go_wp2_with fail
  refine (h _).mono ?_
  rintro e w' ⟨rfl, rfl⟩
  go_wp2
  go_ret
  exact ⟨rfl, rfl⟩
theorem isStray_any (v : Nat) (s : ByteArray) (w : World) : Calls Tryz.prog 111 #[.int .i32 (v : Int), .string s] w fun e w' => e = .returned (.bool (stray v (lS s))) ∧ w' = w := by
  have h := hasErr2 s
  unfold stray
  generalize decide ((lS s).take 3 = [239, 191, 189]) = r at h ⊢
  by_cases hv : v = 65533
  · have h1 : ((v : Int) == 65533) = true := by rw [hv]; rfl
    rw [decide_eq_true hv, Bool.true_and]
    clear hv
    go_enter Tryz.func111, Tryz.ntmps111
    go_wp2_with fail
    refine (h _).mono ?_
    rintro e w' ⟨rfl, rfl⟩
    go_wp2
    go_ret
    exact ⟨rfl, rfl⟩
  · have h1 : ((v : Int) == 65533) = false := beq_eq_false_iff_ne.2 (by omega)
    rw [decide_eq_false hv, Bool.false_and]
    clear hv
    go_enter Tryz.func111, Tryz.ntmps111
    go_wp2_with fail
    go_ret
    exact ⟨rfl, rfl⟩
end Go.Proofs.YtalnbddkhojjbaaGreatDoor
namespace Go.Proofs.YtalnbddkhojjbaaGreatDoor
set_option linter.unusedSimpArgs false
open Go.RowKit

theorem BdP.trans {B b : Nat} {l m : List UInt8} {w w1 w2 : World} (h : BdP B b l w w1) (k : BdP B b m w1 w2) : BdP B b m w w2 := ⟨k.1, h.2.1.trans k.2.1, h.2.2.trans k.2.2⟩
theorem BdP.size {B b : Nat} {l : List UInt8} {w w1 : World} (h : BdP B b l w w1) (hB : B ≤ w.heap.size) : B ≤ w1.heap.size := Nat.le_trans hB h.2.1.size

theorem run_sAtK (w : World) (kd : IntKind) (s : ByteArray) (k : Nat) (h : k < s.size) : (sAt (.string s) (.int kd (k : Int))).run Tryz.prog w = .ok (.value (.int .u8 ((lB (lS s) k).toNat : Int))) w := by
  have hg : s[k]? = some (lB (lS s) k) := by
    rw [getElem?_pos s k h]
    unfold lB lS
    have h2 : k < s.data.size := h
    rw [Array.getElem?_toList, Array.getElem?_eq_getElem h2]; rfl
  have hi : (k : Int) < (s.size : Int) := by omega
  simp [sAt, Instr.index, run_underlying Tryz.underlying9, asIntOf, hg]
theorem run_dg16 (w : World) (n : Nat) (h : n < 16) : (sAt (.string ⟨#[48, 49, 50, 51, 52, 53, 54, 55, 56, 57, 97, 98, 99, 100, 101, 102]⟩) (.int .i32 (n : Int))).run Tryz.prog w = .ok (.value (.int .u8 ((dgC n).toNat : Int))) w := by
  rw [run_sAtK w .i32 _ n (by show n < 16; exact h), ← dgC_at n h]
  rfl

set_option maxRecDepth 100000 in
set_option maxHeartbeats 4000000 in
theorem wq34 (B b : Nat) (l : List UInt8) (v : Nat) (w : World) (h : Bd B b l w) (hl : l.length + 6 ≤ 140737488355328) (hB : B ≤ w.heap.size) (hv : v = 34) : Calls Tryz.prog 112 #[.pointer (some ⟨b, 0, none⟩), .int .i32 (v : Int)] w fun e w' => e = .returned (.tuple #[]) ∧ BdP B b (l ++ [92, 34]) w w' := by
  have c0 : ((v : Int) == 34) = true := beq_iff_eq.2 (by omega)
  have c1 : ((v : Int) == 92) = false := beq_eq_false_iff_ne.2 (by omega)
  have c2 : ((v : Int) == 8) = false := beq_eq_false_iff_ne.2 (by omega)
  have c3 : ((v : Int) == 12) = false := beq_eq_false_iff_ne.2 (by omega)
  have c4 : ((v : Int) == 10) = false := beq_eq_false_iff_ne.2 (by omega)
  have c5 : ((v : Int) == 13) = false := beq_eq_false_iff_ne.2 (by omega)
  have c6 : ((v : Int) == 9) = false := beq_eq_false_iff_ne.2 (by omega)
  have k1 := bdWB B b l 92 w h (by omega) hB
  have k2 := fun W hw hs => bdWR B b (l ++ [92]) v (by rw [hv]; exact ⟨by omega, by omega⟩) W hw (by simp; omega) hs
  have he : enc v = [34] := by rw [hv]; rfl
  rw [show l ++ [92, 34] = (l ++ [92]) ++ [34] by simp]
  simp only [he] at k2
  clear hv he
  go_enter Tryz.func112, Tryz.ntmps112
  go_wp2_with fail
  refine k1.mono ?_
  rintro e w1 ⟨rfl, h1⟩
  go_wp2_with fail
  refine (k2 _ h1.1 (h1.size hB)).mono ?_
  rintro e w2 ⟨⟨n, rfl⟩, h2⟩
  go_wp2
  go_end0
  exact ⟨rfl, h1.trans h2⟩
set_option maxRecDepth 100000 in
set_option maxHeartbeats 4000000 in
theorem wq92 (B b : Nat) (l : List UInt8) (v : Nat) (w : World) (h : Bd B b l w) (hl : l.length + 6 ≤ 140737488355328) (hB : B ≤ w.heap.size) (hv : v = 92) : Calls Tryz.prog 112 #[.pointer (some ⟨b, 0, none⟩), .int .i32 (v : Int)] w fun e w' => e = .returned (.tuple #[]) ∧ BdP B b (l ++ [92, 92]) w w' := by
  have c0 : ((v : Int) == 34) = false := beq_eq_false_iff_ne.2 (by omega)
  have c1 : ((v : Int) == 92) = true := beq_iff_eq.2 (by omega)
  have c2 : ((v : Int) == 8) = false := beq_eq_false_iff_ne.2 (by omega)
  have c3 : ((v : Int) == 12) = false := beq_eq_false_iff_ne.2 (by omega)
  have c4 : ((v : Int) == 10) = false := beq_eq_false_iff_ne.2 (by omega)
  have c5 : ((v : Int) == 13) = false := beq_eq_false_iff_ne.2 (by omega)
  have c6 : ((v : Int) == 9) = false := beq_eq_false_iff_ne.2 (by omega)
  have k1 := bdWB B b l 92 w h (by omega) hB
  have k2 := fun W hw hs => bdWR B b (l ++ [92]) v (by rw [hv]; exact ⟨by omega, by omega⟩) W hw (by simp; omega) hs
  have he : enc v = [92] := by rw [hv]; rfl
  rw [show l ++ [92, 92] = (l ++ [92]) ++ [92] by simp]
  simp only [he] at k2
  clear hv he
  go_enter Tryz.func112, Tryz.ntmps112
  go_wp2_with fail
  refine k1.mono ?_
  rintro e w1 ⟨rfl, h1⟩
  go_wp2_with fail
  refine (k2 _ h1.1 (h1.size hB)).mono ?_
  rintro e w2 ⟨⟨n, rfl⟩, h2⟩
  go_wp2
  go_end0
  exact ⟨rfl, h1.trans h2⟩
set_option maxRecDepth 100000 in
set_option maxHeartbeats 4000000 in
theorem wq8 (B b : Nat) (l : List UInt8) (v : Nat) (w : World) (h : Bd B b l w) (hl : l.length + 6 ≤ 140737488355328) (hB : B ≤ w.heap.size) (hv : v = 8) : Calls Tryz.prog 112 #[.pointer (some ⟨b, 0, none⟩), .int .i32 (v : Int)] w fun e w' => e = .returned (.tuple #[]) ∧ BdP B b (l ++ [92, 98]) w w' := by
  have c0 : ((v : Int) == 34) = false := beq_eq_false_iff_ne.2 (by omega)
  have c1 : ((v : Int) == 92) = false := beq_eq_false_iff_ne.2 (by omega)
  have c2 : ((v : Int) == 8) = true := beq_iff_eq.2 (by omega)
  have c3 : ((v : Int) == 12) = false := beq_eq_false_iff_ne.2 (by omega)
  have c4 : ((v : Int) == 10) = false := beq_eq_false_iff_ne.2 (by omega)
  have c5 : ((v : Int) == 13) = false := beq_eq_false_iff_ne.2 (by omega)
  have c6 : ((v : Int) == 9) = false := beq_eq_false_iff_ne.2 (by omega)
  have k1 := bdWS B b l [92, 98] ⟨#[92, 98]⟩ rfl w h (by simp; omega) hB
  clear hv
  go_enter Tryz.func112, Tryz.ntmps112
  go_wp2_with fail
  refine k1.mono ?_
  rintro e w1 ⟨rfl, h1⟩
  go_wp2
  go_end0
  exact ⟨rfl, h1⟩
set_option maxRecDepth 100000 in
set_option maxHeartbeats 4000000 in
theorem wq12 (B b : Nat) (l : List UInt8) (v : Nat) (w : World) (h : Bd B b l w) (hl : l.length + 6 ≤ 140737488355328) (hB : B ≤ w.heap.size) (hv : v = 12) : Calls Tryz.prog 112 #[.pointer (some ⟨b, 0, none⟩), .int .i32 (v : Int)] w fun e w' => e = .returned (.tuple #[]) ∧ BdP B b (l ++ [92, 102]) w w' := by
  have c0 : ((v : Int) == 34) = false := beq_eq_false_iff_ne.2 (by omega)
  have c1 : ((v : Int) == 92) = false := beq_eq_false_iff_ne.2 (by omega)
  have c2 : ((v : Int) == 8) = false := beq_eq_false_iff_ne.2 (by omega)
  have c3 : ((v : Int) == 12) = true := beq_iff_eq.2 (by omega)
  have c4 : ((v : Int) == 10) = false := beq_eq_false_iff_ne.2 (by omega)
  have c5 : ((v : Int) == 13) = false := beq_eq_false_iff_ne.2 (by omega)
  have c6 : ((v : Int) == 9) = false := beq_eq_false_iff_ne.2 (by omega)
  have k1 := bdWS B b l [92, 102] ⟨#[92, 102]⟩ rfl w h (by simp; omega) hB
  clear hv
  go_enter Tryz.func112, Tryz.ntmps112
  go_wp2_with fail
  refine k1.mono ?_
  rintro e w1 ⟨rfl, h1⟩
  go_wp2
  go_end0
  exact ⟨rfl, h1⟩
set_option maxRecDepth 100000 in
set_option maxHeartbeats 4000000 in
theorem wq10 (B b : Nat) (l : List UInt8) (v : Nat) (w : World) (h : Bd B b l w) (hl : l.length + 6 ≤ 140737488355328) (hB : B ≤ w.heap.size) (hv : v = 10) : Calls Tryz.prog 112 #[.pointer (some ⟨b, 0, none⟩), .int .i32 (v : Int)] w fun e w' => e = .returned (.tuple #[]) ∧ BdP B b (l ++ [92, 110]) w w' := by
  have c0 : ((v : Int) == 34) = false := beq_eq_false_iff_ne.2 (by omega)
  have c1 : ((v : Int) == 92) = false := beq_eq_false_iff_ne.2 (by omega)
  have c2 : ((v : Int) == 8) = false := beq_eq_false_iff_ne.2 (by omega)
  have c3 : ((v : Int) == 12) = false := beq_eq_false_iff_ne.2 (by omega)
  have c4 : ((v : Int) == 10) = true := beq_iff_eq.2 (by omega)
  have c5 : ((v : Int) == 13) = false := beq_eq_false_iff_ne.2 (by omega)
  have c6 : ((v : Int) == 9) = false := beq_eq_false_iff_ne.2 (by omega)
  have k1 := bdWS B b l [92, 110] ⟨#[92, 110]⟩ rfl w h (by simp; omega) hB
  clear hv
  go_enter Tryz.func112, Tryz.ntmps112
  go_wp2_with fail
  refine k1.mono ?_
  rintro e w1 ⟨rfl, h1⟩
  go_wp2
  go_end0
  exact ⟨rfl, h1⟩
set_option maxRecDepth 100000 in
set_option maxHeartbeats 4000000 in
theorem wq13 (B b : Nat) (l : List UInt8) (v : Nat) (w : World) (h : Bd B b l w) (hl : l.length + 6 ≤ 140737488355328) (hB : B ≤ w.heap.size) (hv : v = 13) : Calls Tryz.prog 112 #[.pointer (some ⟨b, 0, none⟩), .int .i32 (v : Int)] w fun e w' => e = .returned (.tuple #[]) ∧ BdP B b (l ++ [92, 114]) w w' := by
  have c0 : ((v : Int) == 34) = false := beq_eq_false_iff_ne.2 (by omega)
  have c1 : ((v : Int) == 92) = false := beq_eq_false_iff_ne.2 (by omega)
  have c2 : ((v : Int) == 8) = false := beq_eq_false_iff_ne.2 (by omega)
  have c3 : ((v : Int) == 12) = false := beq_eq_false_iff_ne.2 (by omega)
  have c4 : ((v : Int) == 10) = false := beq_eq_false_iff_ne.2 (by omega)
  have c5 : ((v : Int) == 13) = true := beq_iff_eq.2 (by omega)
  have c6 : ((v : Int) == 9) = false := beq_eq_false_iff_ne.2 (by omega)
  have k1 := bdWS B b l [92, 114] ⟨#[92, 114]⟩ rfl w h (by simp; omega) hB
  clear hv
  go_enter Tryz.func112, Tryz.ntmps112
  go_wp2_with fail
  refine k1.mono ?_
  rintro e w1 ⟨rfl, h1⟩
  go_wp2
  go_end0
  exact ⟨rfl, h1⟩
set_option maxRecDepth 100000 in
set_option maxHeartbeats 4000000 in
theorem wq9 (B b : Nat) (l : List UInt8) (v : Nat) (w : World) (h : Bd B b l w) (hl : l.length + 6 ≤ 140737488355328) (hB : B ≤ w.heap.size) (hv : v = 9) : Calls Tryz.prog 112 #[.pointer (some ⟨b, 0, none⟩), .int .i32 (v : Int)] w fun e w' => e = .returned (.tuple #[]) ∧ BdP B b (l ++ [92, 116]) w w' := by
  have c0 : ((v : Int) == 34) = false := beq_eq_false_iff_ne.2 (by omega)
  have c1 : ((v : Int) == 92) = false := beq_eq_false_iff_ne.2 (by omega)
  have c2 : ((v : Int) == 8) = false := beq_eq_false_iff_ne.2 (by omega)
  have c3 : ((v : Int) == 12) = false := beq_eq_false_iff_ne.2 (by omega)
  have c4 : ((v : Int) == 10) = false := beq_eq_false_iff_ne.2 (by omega)
  have c5 : ((v : Int) == 13) = false := beq_eq_false_iff_ne.2 (by omega)
  have c6 : ((v : Int) == 9) = true := beq_iff_eq.2 (by omega)
  have k1 := bdWS B b l [92, 116] ⟨#[92, 116]⟩ rfl w h (by simp; omega) hB
  clear hv
  go_enter Tryz.func112, Tryz.ntmps112
  go_wp2_with fail
  refine k1.mono ?_
  rintro e w1 ⟨rfl, h1⟩
  go_wp2
  go_end0
  exact ⟨rfl, h1⟩
set_option maxRecDepth 100000 in
set_option maxHeartbeats 4000000 in
theorem wqOther (B b : Nat) (l : List UInt8) (v : Nat) (w : World) (h : Bd B b l w) (hl : l.length + 6 ≤ 140737488355328) (hB : B ≤ w.heap.size) (hv : vR v) (h32 : 32 ≤ v) (h34 : v ≠ 34) (h92 : v ≠ 92) : Calls Tryz.prog 112 #[.pointer (some ⟨b, 0, none⟩), .int .i32 (v : Int)] w fun e w' => e = .returned (.tuple #[]) ∧ BdP B b (l ++ enc v) w w' := by
  have c0 : ((v : Int) == 34) = false := beq_eq_false_iff_ne.2 (by omega)
  have c1 : ((v : Int) == 92) = false := beq_eq_false_iff_ne.2 (by omega)
  have c2 : ((v : Int) == 8) = false := beq_eq_false_iff_ne.2 (by omega)
  have c3 : ((v : Int) == 12) = false := beq_eq_false_iff_ne.2 (by omega)
  have c4 : ((v : Int) == 10) = false := beq_eq_false_iff_ne.2 (by omega)
  have c5 : ((v : Int) == 13) = false := beq_eq_false_iff_ne.2 (by omega)
  have c6 : ((v : Int) == 9) = false := beq_eq_false_iff_ne.2 (by omega)
  have c8 : ¬ (v : Int) < 32 := by omega
  have k1 := bdWR B b l v hv w h (by omega) hB
  clear hv h32 h34 h92
  go_enter Tryz.func112, Tryz.ntmps112
  go_wp2_with fail
  refine k1.mono ?_
  rintro e w1 ⟨⟨n, rfl⟩, h1⟩
  go_wp2
  go_end0
  exact ⟨rfl, h1⟩
set_option maxRecDepth 100000 in
set_option maxHeartbeats 4000000 in
theorem wqLow (B b : Nat) (l : List UInt8) (v : Nat) (w : World) (h : Bd B b l w) (hl : l.length + 6 ≤ 140737488355328) (hB : B ≤ w.heap.size) (h32 : v < 32) (h8 : v ≠ 8) (h12 : v ≠ 12) (h10 : v ≠ 10) (h13 : v ≠ 13) (h9 : v ≠ 9) : Calls Tryz.prog 112 #[.pointer (some ⟨b, 0, none⟩), .int .i32 (v : Int)] w fun e w' => e = .returned (.tuple #[]) ∧ BdP B b (l ++ [92, 117, 48, 48, dgC (v / 16), dgC (v % 16)]) w w' := by
  have c0 : ((v : Int) == 34) = false := beq_eq_false_iff_ne.2 (by omega)
  have c1 : ((v : Int) == 92) = false := beq_eq_false_iff_ne.2 (by omega)
  have c2 : ((v : Int) == 8) = false := beq_eq_false_iff_ne.2 (by omega)
  have c3 : ((v : Int) == 12) = false := beq_eq_false_iff_ne.2 (by omega)
  have c4 : ((v : Int) == 10) = false := beq_eq_false_iff_ne.2 (by omega)
  have c5 : ((v : Int) == 13) = false := beq_eq_false_iff_ne.2 (by omega)
  have c6 : ((v : Int) == 9) = false := beq_eq_false_iff_ne.2 (by omega)
  have c8 : (v : Int) < 32 := by omega
  have k1 := bdWS B b l [92, 117, 48, 48] ⟨#[92, 117, 48, 48]⟩ rfl w h (by simp; omega) hB
  have k2 := fun W hw hs => bdWB B b (l ++ [92, 117, 48, 48]) (dgC (v / 16)) W hw (by simp; omega) hs
  have k3 := fun W hw hs => bdWB B b (l ++ [92, 117, 48, 48] ++ [dgC (v / 16)]) (dgC (v % 16)) W hw (by simp; omega) hs
  rw [show l ++ [92, 117, 48, 48, dgC (v / 16), dgC (v % 16)] = l ++ [92, 117, 48, 48] ++ [dgC (v / 16)] ++ [dgC (v % 16)] by simp]
  have g1 : ∀ W, (sAt (.string ⟨#[48, 49, 50, 51, 52, 53, 54, 55, 56, 57, 97, 98, 99, 100, 101, 102]⟩) (.int .i32 ((v : Int) / 16))).run Tryz.prog W = .ok (.value (.int .u8 ((dgC (v / 16)).toNat : Int))) W := fun W => by have h9 := run_dg16 W (v / 16) (by omega); rwa [show (((v / 16 : Nat) : Nat) : Int) = (v : Int) / 16 from by omega] at h9
  have g2 : ∀ W, (sAt (.string ⟨#[48, 49, 50, 51, 52, 53, 54, 55, 56, 57, 97, 98, 99, 100, 101, 102]⟩) (.int .i32 (bits .and .i32 (v : Int) 15))).run Tryz.prog W = .ok (.value (.int .u8 ((dgC (v % 16)).toNat : Int))) W := fun W => by have h9 := run_dg16 W (v % 16) (by omega); rwa [← Lib.and15_i32 v (by omega)] at h9
  generalize dgC (v / 16) = d1 at k2 k3 g1 ⊢
  generalize dgC (v % 16) = d2 at k3 g2 ⊢
  clear h8 h12 h10 h13 h9
  go_enter Tryz.func112, Tryz.ntmps112
  go_wp2_with fail
  refine k1.mono ?_
  rintro e w1 ⟨rfl, h1⟩
  go_wp2_with fail
  refine (k2 _ h1.1 (h1.size hB)).mono ?_
  rintro e w2 ⟨rfl, h2⟩
  go_wp2_with fail
  refine (k3 _ h2.1 (h2.size (h1.size hB))).mono ?_
  rintro e w3 ⟨rfl, h3⟩
  go_wp2
  go_end0
  exact ⟨rfl, (h1.trans h2).trans h3⟩
theorem writeQuoted_any (B b : Nat) (l : List UInt8) (v : Nat) (hv : vR v) (w : World) (h : Bd B b l w) (hl : l.length + 6 ≤ 140737488355328) (hB : B ≤ w.heap.size) :
    Calls Tryz.prog 112 #[.pointer (some ⟨b, 0, none⟩), .int .i32 (v : Int)] w fun e w' => e = .returned (.tuple #[]) ∧ BdP B b (l ++ quo v) w w' := by
  rcases qAt_cases v with ⟨h0, h1, h2, h3, h4, h5, h6, h7⟩ | e | e | e | e | e | e | e
  · by_cases h32 : v < 32
    · have := wqLow B b l v w h hl hB h32 h3 h4 h5 h6 h7
      rw [show quo v = [92, 117, 48, 48, dgC (v / 16), dgC (v % 16)] by rw [quo_R, h0]; unfold quoR; simp [h32]]
      exact this
    · have := wqOther B b l v w h hl hB hv (by omega) h1 h2
      rw [show quo v = enc v by rw [quo_R, h0]; unfold quoR; simp [h32]]
      exact this
  · rw [show quo v = [92, 34] by rw [e]; decide]; exact wq34 B b l v w h hl hB e
  · rw [show quo v = [92, 92] by rw [e]; decide]; exact wq92 B b l v w h hl hB e
  · rw [show quo v = [92, 98] by rw [e]; decide]; exact wq8 B b l v w h hl hB e
  · rw [show quo v = [92, 102] by rw [e]; decide]; exact wq12 B b l v w h hl hB e
  · rw [show quo v = [92, 110] by rw [e]; decide]; exact wq10 B b l v w h hl hB e
  · rw [show quo v = [92, 114] by rw [e]; decide]; exact wq13 B b l v w h hl hB e
  · rw [show quo v = [92, 116] by rw [e]; decide]; exact wq9 B b l v w h hl hB e
end Go.Proofs.YtalnbddkhojjbaaGreatDoor
