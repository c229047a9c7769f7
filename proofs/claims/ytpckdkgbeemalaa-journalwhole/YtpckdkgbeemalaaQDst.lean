import Derived.Test.YtpckdkgbeemalaaQDev1
import Derived.Test.YtpckdkgbeemalaaQNum
namespace Go.Proofs.Ytpckdkgbeemalaa
open Go.RowKit

/-! A device, by definition -/
structure DSt where
  last : List Sc
  pend : List Wr
  left : Int
  down : Bool
  rd : Nat
  wt : Nat
  fl : Nat
def over (l : List Sc) (p : List Wr) : List Sc := p.foldl (fun l x => l.set x.1.toNat x.2) l
theorem over_len (l : List Sc) (p : List Wr) : (over l p).length = l.length := by
  unfold over
  induction p generalizing l with
  | nil => rfl
  | cons x r ih => rw [List.foldl_cons, ih, List.length_set]
theorem over_snoc (l : List Sc) (p : List Wr) (x : Wr) : over l (p ++ [x]) = (over l p).set x.1.toNat x.2 := by
  unfold over
  rw [List.foldl_append]; rfl
structure StOk (st : DSt) : Prop where
  at_ : ∀ x ∈ st.pend, 0 ≤ x.1 ∧ x.1 < (st.last.length : Int)
  lo : 64 ≤ st.last.length
  hi : st.last.length ≤ 1024
  l0 : -1 ≤ st.left
  l1 : st.left ≤ 9223372036854775807
def newS (ss : List Sc) : DSt := { last := ss, pend := [], left := -1, down := false, rd := 0, wt := 0, fl := 0 }
def mayB (st : DSt) : Bool := decide (st.left ≠ 0)
def mayS (st : DSt) : DSt := if st.left = 0 then { st with down := true } else if 0 < st.left then { st with left := st.left - 1 } else st
theorem mayS_same (st : DSt) : (mayS st).last = st.last ∧ (mayS st).pend = st.pend ∧ (mayS st).rd = st.rd ∧ (mayS st).wt = st.wt ∧ (mayS st).fl = st.fl := by
  unfold mayS
  split
  · exact ⟨rfl, rfl, rfl, rfl, rfl⟩
  · split <;> exact ⟨rfl, rfl, rfl, rfl, rfl⟩
theorem mayS_left (st : DSt) (h : StOk st) : -1 ≤ (mayS st).left ∧ (mayS st).left ≤ 9223372036854775807 := by
  have h0 := h.l0
  have h1 := h.l1
  unfold mayS
  split
  · exact ⟨h0, h1⟩
  · split
    · simp only; omega
    · exact ⟨h0, h1⟩
def thereB (st : DSt) (a : Int) : Bool := decide (0 ≤ a ∧ a < (st.last.length : Int))
def wrRes (st : DSt) (a : Int) : Int := if st.down then 21 else if thereB st a then (if mayB st then 0 else 21) else 20
def wrSt (st : DSt) (a : Int) (s : Sc) : DSt := if st.down then st else if thereB st a then (if mayB st then { mayS st with pend := st.pend ++ [(a, s)], wt := st.wt + 1 } else mayS st) else st
def flRes (st : DSt) : Int := if st.down then 21 else if mayB st then 0 else 21
def flSt (st : DSt) : DSt := if st.down then st else if mayB st then { mayS st with last := over st.last st.pend, pend := [], fl := st.fl + 1 } else mayS st
def rdRes (st : DSt) (a : Int) : Int := if st.down then 21 else if thereB st a then 0 else 20
def rdSec (st : DSt) (a : Int) : Sc := if rdRes st a = 0 then ((over st.last st.pend)[a.toNat]?).getD secZ else secZ
def rdSt (st : DSt) (a : Int) : DSt := if rdRes st a = 0 then { st with rd := st.rd + 1 } else st
def stSt (st : DSt) (k : Int) : DSt := { st with left := if k < 0 then -1 else k }
def pickL : List Wr → List Bool → List Wr
  | x :: p, b :: l => if b then x :: pickL p l else pickL p l
  | _, _ => []
def reSt (st : DSt) (l : List Bool) : DSt := { st with last := over st.last (pickL st.pend l), pend := [], left := -1, down := false }
end Go.Proofs.Ytpckdkgbeemalaa
namespace Go.Proofs.Ytpckdkgbeemalaa
open Go.RowKit

/-! The document's own device (assayref05) -/
/-- The document's device: its row. -/
def refA (vl vp : Value) (st : DSt) : Array Value := #[vl, vp, .int .i64 st.left, .bool st.down, .int .i64 (st.rd : Int), .int .i64 (st.wt : Int), .int .i64 (st.fl : Int)]
def RefRow (w : World) (r : Nat) (vl vp : Value) (st : DSt) : Prop := w.heap[r]? = some (.cells (refA vl vp st) 95 (0, 0))
theorem RefRow.lt {w : World} {r : Nat} {vl vp : Value} {st : DSt} (h : RefRow w r vl vp st) : r < w.heap.size := (Array.getElem?_eq_some_iff.1 h).1
theorem RefRow.cells {w : World} {r : Nat} {vl vp : Value} {st : DSt} (h : RefRow w r vl vp st) :
    w.cell? ⟨r, 0, none⟩ = some vl ∧ w.cell? ⟨r, 1, none⟩ = some vp ∧ w.cell? ⟨r, 2, none⟩ = some (.int .i64 st.left) ∧ w.cell? ⟨r, 3, none⟩ = some (.bool st.down) ∧ w.cell? ⟨r, 4, none⟩ = some (.int .i64 (st.rd : Int)) ∧ w.cell? ⟨r, 5, none⟩ = some (.int .i64 (st.wt : Int)) ∧ w.cell? ⟨r, 6, none⟩ = some (.int .i64 (st.fl : Int)) := by
  unfold RefRow at h
  unfold World.cell?
  simp only [h]
  exact ⟨rfl, rfl, rfl, rfl, rfl, rfl, rfl⟩
theorem RefRow.frozen {w : World} {r : Nat} {vl vp : Value} {st : DSt} (h : RefRow w r vl vp st) (i : Nat) : w.frozen? ⟨r, i, none⟩ = false := by
  unfold RefRow at h
  simp [World.frozen?, h]
theorem RefRow.kept {w w' : World} {r : Nat} {vl vp : Value} {st : DSt} (h : RefRow w r vl vp st) (hb : w'.heap[r]? = w.heap[r]?) : RefRow w' r vl vp st := by
  unfold RefRow at *; rw [hb]; exact h
theorem RefRow.set {w : World} {r : Nat} {vl vp vl' vp' : Value} {st st' : DSt} (h : RefRow w r vl vp st) (i : Nat) (v : Value) (e : (refA vl vp st).setIfInBounds i v = refA vl' vp' st') : RefRow (w.setCell ⟨r, i, none⟩ v) r vl' vp' st' := by
  unfold RefRow at *
  rw [heap_setCell w r i v _ _ _ h, e]
theorem grown_cell (w : World) (g i : Nat) (v : Value) : w.grownBy (w.setCell ⟨g, i, none⟩ v) (some g) :=
  ⟨rfl, rfl, rfl, by simp [World.setCell], fun k hk hne => by
    simp only [World.setCell, Array.getElem?_modify]
    rw [if_neg (fun e => hne (by rw [e]))]⟩
set_option linter.unusedSimpArgs false in
theorem refThere_any (r : Nat) (vl vp : Value) (st : DSt) (x : Option Addr) (c : Nat) (a : Int) (w : World) (h : RefRow w r vl vp st) (hv : vl = .slice x st.last.length c) :
    Calls Try.prog 68 #[.pointer (some ⟨r, 0, none⟩), .int .i64 a] w fun e w' => e = .returned (.bool (thereB st a)) ∧ w' = w := by
  obtain ⟨h0, -⟩ := h.cells
  rw [hv] at h0
  obtain ⟨b, hb⟩ : ∃ b, thereB st a = b := ⟨_, rfl⟩
  rw [hb]
  unfold thereB at hb
  generalize st.last.length = n at h0 hb
  by_cases h1 : 0 ≤ a
  · by_cases h2 : a < (n : Int)
    · obtain rfl : b = true := by rw [← hb]; simp [h1, h2]
      clear hb h hv
      go_enter Try.func68, Try.ntmps68
      go_wp2
      go_ret
      exact ⟨rfl, rfl⟩
    · obtain rfl : b = false := by rw [← hb]; simp [h2]
      clear hb h hv
      go_enter Try.func68, Try.ntmps68
      go_wp2
      go_ret
      exact ⟨rfl, rfl⟩
  · obtain rfl : b = false := by rw [← hb]; simp [h1]
    clear hb h hv
    go_enter Try.func68, Try.ntmps68
    go_wp2
    go_ret
    exact ⟨rfl, rfl⟩
set_option linter.unusedSimpArgs false in
theorem refMay_any (r : Nat) (vl vp : Value) (st : DSt) (w : World) (h : RefRow w r vl vp st) (hl : -1 ≤ st.left ∧ st.left ≤ 9223372036854775807) :
    Calls Try.prog 69 #[.pointer (some ⟨r, 0, none⟩)] w fun e w' => e = .returned (.bool (mayB st)) ∧ RefRow w' r vl vp (mayS st) ∧ w.grownBy w' (some r) := by
  obtain ⟨-, -, h2, h3, -⟩ := h.cells
  have f2 := h.frozen 2
  have f3 := h.frozen 3
  by_cases e0 : st.left = 0
  · have HM : Hid (mayB st = false) := by show _ = _; unfold mayB; simp [e0]
    have HR : Hid (RefRow (w.setCell ⟨r, 3, none⟩ (.bool true)) r vl vp (mayS st)) := h.set 3 _ (by unfold mayS refA; rw [if_pos e0]; rfl)
    rw [e0] at h2
    clear h
    go_enter Try.func69, Try.ntmps69
    go_wp2
    go_ret
    exact ⟨by rw [HM.out]; rfl, HR.out, grown_cell _ _ _ _⟩
  · have HM : Hid (mayB st = true) := by show _ = _; unfold mayB; simp [e0]
    by_cases e1 : 0 < st.left
    · have HR : Hid (RefRow (w.setCell ⟨r, 2, none⟩ (.int .i64 (st.left - 1))) r vl vp (mayS st)) := h.set 2 _ (by unfold mayS refA; rw [if_neg e0, if_pos e1]; rfl)
      have w1 : IntKind.i64.wrap (st.left - 1) = st.left - 1 := by rw [IntKind.wrap_i64]; omega
      clear h
      generalize st.left = l at h2 e0 e1 w1 HR hl
      go_enter Try.func69, Try.ntmps69
      go_wp2
      go_ret
      exact ⟨by rw [HM.out]; rfl, HR.out, grown_cell _ _ _ _⟩
    · have HR : Hid (RefRow w r vl vp (mayS st)) := by show RefRow _ _ _ _ _; unfold mayS; rw [if_neg e0, if_neg e1]; exact h
      clear h
      generalize st.left = l at h2 e0 e1 HR hl
      go_enter Try.func69, Try.ntmps69
      go_wp2
      go_ret
      exact ⟨by rw [HM.out]; rfl, HR.out, grown_drew w 0 _⟩
end Go.Proofs.Ytpckdkgbeemalaa
