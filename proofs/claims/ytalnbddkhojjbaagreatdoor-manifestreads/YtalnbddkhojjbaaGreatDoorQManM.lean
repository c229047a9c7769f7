import Derived.Test.YtalnbddkhojjbaaGreatDoorQNum
import Derived.Test.YtalnbddkhojjbaaGreatDoorQDigM
import Derived.Test.YtalnbddkhojjbaaGreatDoorQDcr
namespace Go.Proofs.YtalnbddkhojjbaaGreatDoor
open Go.RowKit

def dcT (d : Dc) : List UInt8 := [123, 34, 100, 105, 103, 101, 115, 116, 34, 58, 34] ++ textL d.key ++ [34, 44, 34, 115, 105, 122, 101, 34, 58] ++ digN d.size ++ [125]
def dcsT : List Dc → Bool → List UInt8
  | [], _ => []
  | d :: r, b => (bif b then [] else [44]) ++ dcT d ++ dcsT r false
def dcOk (d : Dc) : Bool := decide (0 ≤ d.size) && decide (d.size ≤ 2147483647)
def mwE (k : Int) (l : List Dc) : Int := if (k ≠ 1 ∧ k ≠ 2) ∨ (k = 1 ∧ l = []) then 1 else if 32 < l.length then 2 else if l.all dcOk then 0 else 13
def mHd : List UInt8 := [123, 34, 115, 99, 104, 101, 109, 97, 86, 101, 114, 115, 105, 111, 110, 34, 58, 50, 44]
def mwT (k : Int) (l : List Dc) : List UInt8 :=
  if k = 2 then mHd ++ [34, 109, 97, 110, 105, 102, 101, 115, 116, 115, 34, 58, 91] ++ dcsT l true ++ [93, 125]
  else mHd ++ [34, 99, 111, 110, 102, 105, 103, 34, 58] ++ dcsT (l.take 1) true ++ [44, 34, 108, 97, 121, 101, 114, 115, 34, 58, 91] ++ dcsT (l.drop 1) true ++ [93, 125]
def mwS (k : Int) (l : List Dc) : List UInt8 := if mwE k l = 0 then mwT k l else []
def kD : List UInt8 := [100, 105, 103, 101, 115, 116]
def kS : List UInt8 := [115, 105, 122, 101]
def kV : List UInt8 := [115, 99, 104, 101, 109, 97, 86, 101, 114, 115, 105, 111, 110]
def kL16 : List UInt8 := [108, 97, 121, 101, 114, 115]
def kM : List UInt8 := [109, 97, 110, 105, 102, 101, 115, 116, 115]
def kC : List UInt8 := [99, 111, 110, 102, 105, 103]
def Nd.kd : Nd → Int
  | .mk k _ _ _ _ => k
def Nd.nn : Nd → Int
  | .mk _ n _ _ _ => n
def Nd.ss : Nd → List UInt8
  | .mk _ _ s _ _ => s
def Nd.vl : Nd → List Nd
  | .mk _ _ _ _ v => v
def pgB (l : List UInt8) : Bool := decide (l.length = 71) && (decide (l.take 7 = frontS) && (List.range 32).all fun i => decide (0 ≤ hiV l i ∧ 0 ≤ loV l i))
theorem pgB_iff (l : List UInt8) : pgB l = true ↔ PGood l := by
  unfold pgB PGood PUp
  simp [List.all_eq_true]
def pgD (l : List UInt8) : Decidable (PGood l) := decidable_of_decidable_of_iff (pgB_iff l)
def dscN (n : Nd) : Option Dc :=
  match fldN n kD, fldN n kS with
  | some d, some s => letI := pgD d.ss; if d.kd = 4 ∧ s.kd = 3 ∧ 0 ≤ s.nn ∧ s.nn ≤ 2147483647 ∧ PGood d.ss then some ⟨pval d.ss, s.nn⟩ else none
  | _, _ => none
def dscA : List Nd → Option (List Dc)
  | [] => some []
  | n :: r => match dscN n, dscA r with
    | some d, some l => some (d :: l)
    | _, _ => none
def dscL (n : Nd) : Option (List Dc) := if n.kd = 5 then dscA n.vl else none
def mrM (m : Nd) : Int × List Dc := match dscL m with
  | some l => if 32 < l.length then (0, []) else (2, l)
  | none => (0, [])
def mrL (c y : Nd) : Int × List Dc := match dscN c, dscL y with
  | some d, some l => if 32 ≤ l.length then (0, []) else (1, d :: l)
  | _, _ => (0, [])
def mrB (n : Nd) : Int × List Dc := match fldN n kL16, fldN n kM with
  | none, some m => mrM m
  | some y, none => (match fldN n kC with
    | none => (0, [])
    | some c => mrL c y)
  | _, _ => (0, [])
def mrA (n : Nd) : Int × List Dc := match fldN n kV with
  | none => (0, [])
  | some v => if v.kd ≠ 3 ∨ v.nn ≠ 2 then (0, []) else mrB n
def mrN (n : Nd) : Int × List Dc := if n.kd ≠ 6 then (0, []) else mrA n
def mRd (l : List UInt8) : Int × List Dc := if 4096 < l.length then (0, []) else if (prsA l).2.1 ≠ 0 then (0, []) else mrN (prsA l).1
theorem dscA_snoc : ∀ (l : List Nd) (n : Nd), dscA (l ++ [n]) = (match dscA l, dscN n with
    | some a, some d => some (a ++ [d])
    | _, _ => none)
  | [], n => by
    simp only [List.nil_append, dscA]
    cases dscN n <;> rfl
  | a :: r, n => by
    rw [List.cons_append, dscA, dscA_snoc r n, dscA]
    cases dscN a <;> cases dscA r <;> cases dscN n <;> rfl
end Go.Proofs.YtalnbddkhojjbaaGreatDoor
