import Derived.Test.YtadnfiikfhdphaaQDst
namespace Go.Proofs.Ytadnfiikfhdphaa
open Go.RowKit

/-! The document's own device (assayref05) -/
/-- The document's device: its row. -/
def refA (vl vp : Value) (st : DSt) : Array Value := #[vl, vp, .int .i64 st.left, .bool st.down, .int .i64 (st.rd : Int), .int .i64 (st.wt : Int), .int .i64 (st.fl : Int)]
def RefRow (w : World) (r : Nat) (vl vp : Value) (st : DSt) : Prop := w.heap[r]? = some (.cells (refA vl vp st) 58 (0, 0))
theorem RefRow.lt {w : World} {r : Nat} {vl vp : Value} {st : DSt} (h : RefRow w r vl vp st) : r < w.heap.size := (Array.getElem?_eq_some_iff.1 h).1
theorem RefRow.cells {w : World} {r : Nat} {vl vp : Value} {st : DSt} (h : RefRow w r vl vp st) :
    w.cell? ⟨r, 0, none⟩ = some vl ∧ w.cell? ⟨r, 1, none⟩ = some vp ∧ w.cell? ⟨r, 2, none⟩ = some (.int .i64 st.left) ∧ w.cell? ⟨r, 3, none⟩ = some (.bool st.down) ∧ w.cell? ⟨r, 4, none⟩ = some (.int .i64 (st.rd : Int)) ∧ w.cell? ⟨r, 5, none⟩ = some (.int .i64 (st.wt : Int)) ∧ w.cell? ⟨r, 6, none⟩ = some (.int .i64 (st.fl : Int)) := by
  unfold RefRow at h
  unfold World.cell?
  simp only [h]
  exact ⟨rfl, rfl, rfl, rfl, rfl, rfl, rfl⟩
theorem RefRow.frozen {w : World} {r : Nat} {vl vp : Value} {st : DSt} (h : RefRow w r vl vp st) (i : Nat) : w.frozen? ⟨r, i, none⟩ = false := by
  unfold RefRow at h
  simp [World.frozen?, h]
theorem RefRow.kept {w w' : World} {r : Nat} {vl vp : Value} {st : DSt} (h : RefRow w r vl vp st) (hb : w'.heap[r]? = w.heap[r]?) : RefRow w' r vl vp st := by
  unfold RefRow at *; rw [hb]; exact h
theorem RefRow.set {w : World} {r : Nat} {vl vp vl' vp' : Value} {st st' : DSt} (h : RefRow w r vl vp st) (i : Nat) (v : Value) (e : (refA vl vp st).setIfInBounds i v = refA vl' vp' st') : RefRow (w.setCell ⟨r, i, none⟩ v) r vl' vp' st' := by
  unfold RefRow at *
  rw [heap_setCell w r i v _ _ _ h, e]
theorem grown_cell (w : World) (g i : Nat) (v : Value) : w.grownBy (w.setCell ⟨g, i, none⟩ v) (some g) :=
  ⟨rfl, rfl, rfl, by simp [World.setCell], fun k hk hne => by
    simp only [World.setCell, Array.getElem?_modify]
    rw [if_neg (fun e => hne (by rw [e]))]⟩
set_option linter.unusedSimpArgs false in
theorem refThere_any (r : Nat) (vl vp : Value) (st : DSt) (x : Option Addr) (c : Nat) (a : Int) (w : World) (h : RefRow w r vl vp st) (hv : vl = .slice x st.last.length c) :
    Calls Try.prog 39 #[.pointer (some ⟨r, 0, none⟩), .int .i64 a] w fun e w' => e = .returned (.bool (thereB st a)) ∧ w' = w := by
  obtain ⟨h0, -⟩ := h.cells
  rw [hv] at h0
  obtain ⟨b, hb⟩ : ∃ b, thereB st a = b := ⟨_, rfl⟩
  rw [hb]
  unfold thereB at hb
  generalize st.last.length = n at h0 hb
  by_cases h1 : 0 ≤ a
  · by_cases h2 : a < (n : Int)
    · obtain rfl : b = true := by rw [← hb]; simp [h1, h2]
      clear hb h hv
      go_enter Try.func39, Try.ntmps39
      go_wp2
      go_ret
      exact ⟨rfl, rfl⟩
    · obtain rfl : b = false := by rw [← hb]; simp [h2]
      clear hb h hv
      go_enter Try.func39, Try.ntmps39
      go_wp2
      go_ret
      exact ⟨rfl, rfl⟩
  · obtain rfl : b = false := by rw [← hb]; simp [h1]
    clear hb h hv
    go_enter Try.func39, Try.ntmps39
    go_wp2
    go_ret
    exact ⟨rfl, rfl⟩
set_option linter.unusedSimpArgs false in
theorem refMay_any (r : Nat) (vl vp : Value) (st : DSt) (w : World) (h : RefRow w r vl vp st) (hl : -1 ≤ st.left ∧ st.left ≤ 9223372036854775807) :
    Calls Try.prog 40 #[.pointer (some ⟨r, 0, none⟩)] w fun e w' => e = .returned (.bool (mayB st)) ∧ RefRow w' r vl vp (mayS st) ∧ w.grownBy w' (some r) := by
  obtain ⟨-, -, h2, h3, -⟩ := h.cells
  have f2 := h.frozen 2
  have f3 := h.frozen 3
  by_cases e0 : st.left = 0
  · have HM : Hid (mayB st = false) := by show _ = _; unfold mayB; simp [e0]
    have HR : Hid (RefRow (w.setCell ⟨r, 3, none⟩ (.bool true)) r vl vp (mayS st)) := h.set 3 _ (by unfold mayS refA; rw [if_pos e0]; rfl)
    rw [e0] at h2
    clear h
    go_enter Try.func40, Try.ntmps40
    go_wp2
    go_ret
    exact ⟨by rw [HM.out]; rfl, HR.out, grown_cell _ _ _ _⟩
  · have HM : Hid (mayB st = true) := by show _ = _; unfold mayB; simp [e0]
    by_cases e1 : 0 < st.left
    · have HR : Hid (RefRow (w.setCell ⟨r, 2, none⟩ (.int .i64 (st.left - 1))) r vl vp (mayS st)) := h.set 2 _ (by unfold mayS refA; rw [if_neg e0, if_pos e1]; rfl)
      have w1 : IntKind.i64.wrap (st.left - 1) = st.left - 1 := by rw [IntKind.wrap_i64]; omega
      clear h
      generalize st.left = l at h2 e0 e1 w1 HR hl
      go_enter Try.func40, Try.ntmps40
      go_wp2
      go_ret
      exact ⟨by rw [HM.out]; rfl, HR.out, grown_cell _ _ _ _⟩
    · have HR : Hid (RefRow w r vl vp (mayS st)) := by show RefRow _ _ _ _ _; unfold mayS; rw [if_neg e0, if_neg e1]; exact h
      clear h
      generalize st.left = l at h2 e0 e1 HR hl
      go_enter Try.func40, Try.ntmps40
      go_wp2
      go_ret
      exact ⟨by rw [HM.out]; rfl, HR.out, grown_drew w 0 _⟩
end Go.Proofs.Ytadnfiikfhdphaa
