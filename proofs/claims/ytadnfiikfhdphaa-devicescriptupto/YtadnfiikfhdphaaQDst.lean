import Derived.Test.YtadnfiikfhdphaaQDev3
import Derived.Test.YtadnfiikfhdphaaQNum
namespace Go.Proofs.Ytadnfiikfhdphaa
open Go.RowKit

/-! A device, by definition -/
structure DSt where
  last : List Sc
  pend : List Wr
  left : Int
  down : Bool
  rd : Nat
  wt : Nat
  fl : Nat
def over (l : List Sc) (p : List Wr) : List Sc := p.foldl (fun l x => l.set x.1.toNat x.2) l
theorem over_len (l : List Sc) (p : List Wr) : (over l p).length = l.length := by
  unfold over
  induction p generalizing l with
  | nil => rfl
  | cons x r ih => rw [List.foldl_cons, ih, List.length_set]
theorem over_snoc (l : List Sc) (p : List Wr) (x : Wr) : over l (p ++ [x]) = (over l p).set x.1.toNat x.2 := by
  unfold over
  rw [List.foldl_append]; rfl
structure StOk (st : DSt) : Prop where
  at_ : ∀ x ∈ st.pend, 0 ≤ x.1 ∧ x.1 < (st.last.length : Int)
  lo : 64 ≤ st.last.length
  hi : st.last.length ≤ 1024
  l0 : -1 ≤ st.left
  l1 : st.left ≤ 9223372036854775807
def newS (ss : List Sc) : DSt := { last := ss, pend := [], left := -1, down := false, rd := 0, wt := 0, fl := 0 }
def mayB (st : DSt) : Bool := decide (st.left ≠ 0)
def mayS (st : DSt) : DSt := if st.left = 0 then { st with down := true } else if 0 < st.left then { st with left := st.left - 1 } else st
theorem mayS_same (st : DSt) : (mayS st).last = st.last ∧ (mayS st).pend = st.pend ∧ (mayS st).rd = st.rd ∧ (mayS st).wt = st.wt ∧ (mayS st).fl = st.fl := by
  unfold mayS
  split
  · exact ⟨rfl, rfl, rfl, rfl, rfl⟩
  · split <;> exact ⟨rfl, rfl, rfl, rfl, rfl⟩
theorem mayS_left (st : DSt) (h : StOk st) : -1 ≤ (mayS st).left ∧ (mayS st).left ≤ 9223372036854775807 := by
  have h0 := h.l0
  have h1 := h.l1
  unfold mayS
  split
  · exact ⟨h0, h1⟩
  · split
    · simp only; omega
    · exact ⟨h0, h1⟩
def thereB (st : DSt) (a : Int) : Bool := decide (0 ≤ a ∧ a < (st.last.length : Int))
def wrRes (st : DSt) (a : Int) : Int := if st.down then 21 else if thereB st a then (if mayB st then 0 else 21) else 20
def wrSt (st : DSt) (a : Int) (s : Sc) : DSt := if st.down then st else if thereB st a then (if mayB st then { mayS st with pend := st.pend ++ [(a, s)], wt := st.wt + 1 } else mayS st) else st
def flRes (st : DSt) : Int := if st.down then 21 else if mayB st then 0 else 21
def flSt (st : DSt) : DSt := if st.down then st else if mayB st then { mayS st with last := over st.last st.pend, pend := [], fl := st.fl + 1 } else mayS st
def rdRes (st : DSt) (a : Int) : Int := if st.down then 21 else if thereB st a then 0 else 20
def rdSec (st : DSt) (a : Int) : Sc := if rdRes st a = 0 then ((over st.last st.pend)[a.toNat]?).getD secZ else secZ
def rdSt (st : DSt) (a : Int) : DSt := if rdRes st a = 0 then { st with rd := st.rd + 1 } else st
def stSt (st : DSt) (k : Int) : DSt := { st with left := if k < 0 then -1 else k }
def pickL : List Wr → List Bool → List Wr
  | x :: p, b :: l => if b then x :: pickL p l else pickL p l
  | _, _ => []
def reSt (st : DSt) (l : List Bool) : DSt := { st with last := over st.last (pickL st.pend l), pend := [], left := -1, down := false }
end Go.Proofs.Ytadnfiikfhdphaa
