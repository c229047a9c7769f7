import Derived.Test.YtafbkdpheneceaaQExtC
import Derived.Test.YtafbkdpheneceaaQMkx
namespace Go.Proofs.Ytafbkdpheneceaa
open Go.RowKit

/-! assayref08: the document's own extent -/
def fV (f : Nat → Bool) (a k : Nat) : List Value := (List.range k).map fun i => .bool (f (a + i))
theorem fV_len (f : Nat → Bool) (a k : Nat) : (fV f a k).length = k := by simp [fV]
theorem fV_at (f : Nat → Bool) (a k i : Nat) (h : i < k) : (fV f a k)[i]? = some (.bool (f (a + i))) := by simp [fV, h]
def R8 (w : World) (v : Value) (st : XSt) (F : List Nat) : Prop := ∃ (r : Nat) (x : Option Addr) (c : Nat), v = .pointer (some ⟨r, 0, none⟩) ∧
  w.heap[r]? = some (.cells #[.int .i64 (st.fr : Int), .slice x (st.hi - st.fr) c] 73 (0, 0)) ∧ OwnG 4 w 0 (.slice x (st.hi - st.fr) c) (fV st.f st.fr (st.hi - st.fr)) ∧
  F = r :: (Value.slice x (st.hi - st.fr) c).ownBlock.toList ∧ r ∉ (Value.slice x (st.hi - st.fr) c).ownBlock.toList ∧ st.fr ≤ st.hi ∧ st.hi ≤ 1024
theorem OwnG.keeps8 {F : List Nat} {e : TypeId} {w w' : World} {B : Nat} {v : Value} {ds : List Value} (h : OwnG e w B v ds) (hK : Keep F w w') (hq : ∀ q, v.ownBlock = some q → q ∉ F) : OwnG e w' B v ds := by
  refine ⟨h.1, ?_⟩
  rcases h.2 with hn | ⟨g, cap, cur, rfl, hb, hg, rest⟩
  · exact .inl hn
  · refine .inr ⟨g, cap, cur, rfl, hb, ?_, rest⟩
    rw [hK.block g (Array.getElem?_eq_some_iff.1 hg).1 (hq g rfl)]
    exact hg
theorem R8.keeps {w w' : World} {v : Value} {st : XSt} {F G : List Nat} (h : R8 w v st F) (hK : Keep G w w') (hd : ∀ q ∈ F, q ∉ G) : R8 w' v st F := by
  obtain ⟨r, x, c, rfl, h1, h2, rfl, h4, h5⟩ := h
  refine ⟨r, x, c, rfl, ?_, OwnG.keeps8 h2 hK (fun q hq => hd q (by simp [hq])), rfl, h4, h5⟩
  rw [hK.block r (Array.getElem?_eq_some_iff.1 h1).1 (hd r (by simp))]
  exact h1
theorem R8.lt {w : World} {v : Value} {st : XSt} {F : List Nat} (h : R8 w v st F) : ∀ q ∈ F, q < w.heap.size := by
  obtain ⟨r, x, c, rfl, h1, h2, rfl, h4, h5⟩ := h
  intro q hq
  rcases List.mem_cons.1 hq with rfl | hq
  · exact (Array.getElem?_eq_some_iff.1 h1).1
  · exact (OwnG.lt h2 q (by simpa using hq)).2
theorem R8.ok {w : World} {v : Value} {st : XSt} {F : List Nat} (h : R8 w v st F) : st.fr ≤ st.hi ∧ st.hi ≤ 1024 := by
  obtain ⟨r, x, c, rfl, h1, h2, rfl, h4, h5⟩ := h
  exact h5
theorem R8.ptr {w : World} {v : Value} {st : XSt} {F : List Nat} (h : R8 w v st F) : ∃ a, v = .pointer (some a) := by
  obtain ⟨r, x, c, rfl, -⟩ := h
  exact ⟨_, rfl⟩
theorem R8.cells {w : World} {r : Nat} {a b : Value} {t : TypeId} (h : w.heap[r]? = some (.cells #[a, b] t (0, 0))) : w.cell? ⟨r, 0, none⟩ = some a ∧ w.cell? ⟨r, 1, none⟩ = some b := by
  unfold World.cell?
  simp only [h]
  exact ⟨rfl, rfl⟩
/-- The call only reads. -/
theorem R8.reads {w w' : World} {v : Value} {st : XSt} {F : List Nat} (h : R8 w v st F) (hb : Below w.heap.size w w') : XStep R8 F w v st w' :=
  ⟨F, h.keeps (G := []) (Keep.of_below hb) (fun _ _ => by simp), fun _ hq => .inl hq, Keep.of_below hb⟩
set_option linter.unusedSimpArgs false in
set_option maxHeartbeats 400000 in
theorem refNew8_no (w : World) (a b : Int) (h : ¬ (0 ≤ a ∧ a ≤ b ∧ b ≤ 1024)) : Calls Try.prog 15 #[.int .i64 a, .int .i64 b] w fun e w' => e = .returned (.tuple #[.pointer none, .int .i64 1]) ∧ w' = w := by
  by_cases h1 : a < 0
  · go_enter Try.func15, Try.ntmps15
    go_wp2
    refine bodyPost_ret (results_tmp2 rfl _ _ _) rfl ?_
    exact ⟨rfl, rfl⟩
  · by_cases h2 : b < a
    · go_enter Try.func15, Try.ntmps15
      go_wp2
      refine bodyPost_ret (results_tmp2 rfl _ _ _) rfl ?_
      exact ⟨rfl, rfl⟩
    · have h3 : 1024 < b := by omega
      go_enter Try.func15, Try.ntmps15
      go_wp2
      refine bodyPost_ret (results_tmp2 rfl _ _ _) rfl ?_
      exact ⟨rfl, rfl⟩
set_option linter.unusedSimpArgs false in
set_option maxHeartbeats 400000 in
theorem refNew8_yes (w : World) (a b : Int) (m : Nat) (h1 : ¬ a < 0) (h2 : ¬ b < a) (h3 : ¬ 1024 < b) (hm : b - a = (m : Int)) : Calls Try.prog 15 #[.int .i64 a, .int .i64 b] w fun e w' => e = .returned (.tuple #[.pointer (some ⟨w.heap.size + 1, 0, none⟩), .int .i64 0]) ∧
    w' = (w.alloc (.cells (falses m).toArray 4)).alloc (.cells #[.int .i64 a, .slice (some ⟨w.heap.size, 0, none⟩) m m] 73) := by
  have hmw : IntKind.i64.wrap (m : Int) = (m : Int) := by rw [IntKind.wrap_i64]; omega
  have hm0 : (0 : Int) ≤ (m : Int) := by omega
  have hm1 : (m : Int) ≤ 281474976710656 := by omega
  go_enter Try.func15, Try.ntmps15
  go_wp2
  refine bodyPost_ret (results_tmp2 rfl _ _ _) rfl ?_
  exact ⟨rfl, rfl⟩
theorem refNew8 (w : World) (a b : Int) : Calls Try.prog 15 #[.int .i64 a, .int .i64 b] w fun e w' => Below w.heap.size w w' ∧
    ((0 ≤ a ∧ a ≤ b ∧ b ≤ 1024 ∧ ∃ v F, e = .returned (.tuple #[v, .int .i64 0]) ∧ R8 w' v ⟨a.toNat, b.toNat, fun _ => false⟩ F ∧ ∀ q ∈ F, w.heap.size ≤ q) ∨ (¬ (0 ≤ a ∧ a ≤ b ∧ b ≤ 1024) ∧ e = .returned (.tuple #[.pointer none, .int .i64 1]))) := by
  by_cases h : 0 ≤ a ∧ a ≤ b ∧ b ≤ 1024
  · obtain ⟨m, hm⟩ : ∃ m : Nat, b - a = (m : Int) := ⟨(b - a).toNat, by omega⟩
    refine (refNew8_yes w a b m (by omega) (by omega) (by omega) hm).mono ?_
    rintro e w' ⟨rfl, rfl⟩
    have hA := below_alloc w (.cells (falses m).toArray 4)
    have hA2 := below_alloc (w.alloc (.cells (falses m).toArray 4)) (.cells #[.int .i64 a, .slice (some ⟨w.heap.size, 0, none⟩) m m] 73)
    refine ⟨hA.trans (hA2.mono hA.size), .inl ⟨h.1, h.2.1, h.2.2, _, [w.heap.size + 1, w.heap.size], rfl, ⟨w.heap.size + 1, some ⟨w.heap.size, 0, none⟩, m, rfl, ?_, ?_, ?_, ?_, ?_⟩, ?_⟩⟩
    · have := heap_alloc_last (w.alloc (.cells (falses m).toArray 4)) (.cells #[.int .i64 a, .slice (some ⟨w.heap.size, 0, none⟩) m m] 73)
      rw [World.size_alloc] at this
      simp only
      rw [show b.toNat - a.toNat = m by omega, show ((a.toNat : Nat) : Int) = a by omega]
      exact this
    · simp only
      rw [show b.toNat - a.toNat = m by omega]
      have := (OwnG.lit 4 w (falses m) (by simp [falses]; unfold maxLen; omega)).keep hA2
      have hl : (falses m).length = m := by simp [falses]
      rw [hl] at this
      have he : fV (fun _ => false) a.toNat m = falses m := by
        apply List.ext_getElem
        · simp [fV, falses]
        · intro i h1 h2; simp [fV, falses]
      rw [he]
      exact this.le (Nat.zero_le _)
    · simp [Value.ownBlock]
    · simp [Value.ownBlock]
    · simp only; omega
    · intro q hq; simp at hq; omega
  · refine (refNew8_no w a b h).mono ?_
    rintro e w' ⟨rfl, rfl⟩
    exact ⟨Below.refl _ _, .inr ⟨h, rfl⟩⟩
end Go.Proofs.Ytafbkdpheneceaa
