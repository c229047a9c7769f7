
import Derived.Test.YtiokdcffpnjkcaaDoorNamM
namespace Go.Proofs.YtiokdcffpnjkcaaDoor
open Go.RowKit

/-! Runes, tokens and quoted texts by definition, over lists of bytes -/
def isC (b : UInt8) : Bool := decide (128 ≤ b.toNat ∧ b.toNat ≤ 191)
/-- The number that a first part v0 and k bytes that go on make. -/
def cvR (l : List UInt8) (v0 : Nat) : Nat → Option Nat
  | 0 => some v0
  | k + 1 => match cvR l v0 k with
    | none => none
    | some v => if isC (lB l (k + 1)) = true then some (64 * v + (lB l (k + 1)).toNat - 128) else none
def leastR (n : Nat) : Nat := if n = 2 then 128 else if n = 3 then 2048 else 65536
def okR (n v : Nat) : Bool := decide (leastR n ≤ v ∧ v ≤ 1114111 ∧ ¬ (55296 ≤ v ∧ v ≤ 57343))
def rnN (l : List UInt8) (n v0 : Nat) : Nat × Nat := if l.length < n then (0, 0) else
  match cvR l v0 (n - 1) with
  | none => (0, 0)
  | some v => if okR n v = true then (v, n) else (0, 0)
/-- The rune at the front, and how many bytes it has. -/
def rn (l : List UInt8) : Nat × Nat :=
  if l.length = 0 then (0, 0) else
  if (lB l 0).toNat < 128 then ((lB l 0).toNat, 1) else
  if 192 ≤ (lB l 0).toNat ∧ (lB l 0).toNat < 224 then rnN l 2 ((lB l 0).toNat - 192) else
  if 224 ≤ (lB l 0).toNat ∧ (lB l 0).toNat < 240 then rnN l 3 ((lB l 0).toNat - 224) else
  if 240 ≤ (lB l 0).toNat ∧ (lB l 0).toNat < 248 then rnN l 4 ((lB l 0).toNat - 240) else (0, 0)
def u8 (n : Nat) : UInt8 := UInt8.ofNat n
/-- A rune's bytes. -/
def enc (v : Nat) : List UInt8 :=
  if v < 128 then [u8 v] else
  if v < 2048 then [u8 (192 + v / 64), u8 (128 + v % 64)] else
  if v < 65536 then [u8 (224 + v / 4096), u8 (128 + v / 64 % 64), u8 (128 + v % 64)] else
  [u8 (240 + v / 262144), u8 (128 + v / 4096 % 64), u8 (128 + v / 64 % 64), u8 (128 + v % 64)]
/-- A digit of base sixteen; -1: none. -/
def hexV (b : UInt8) : Int :=
  if 48 ≤ b.toNat ∧ b.toNat ≤ 57 then (b.toNat : Int) - 48 else
  if 97 ≤ b.toNat ∧ b.toNat ≤ 102 then (b.toNat : Int) - 97 + 10 else
  if 65 ≤ b.toNat ∧ b.toNat ≤ 70 then (b.toNat : Int) - 65 + 10 else -1
theorem hexV_range (b : UInt8) : -1 ≤ hexV b ∧ hexV b ≤ 15 := by
  unfold hexV
  split
  · omega
  · split
    · omega
    · split <;> omega
/-- The number of k digits from 2 on; none, if one is no digit. -/
def hx (l : List UInt8) : Nat → Option Nat
  | 0 => some 0
  | k + 1 => match hx l k with
    | none => none
    | some v => if hexV (lB l (2 + k)) < 0 then none else some (16 * v + (hexV (lB l (2 + k))).toNat)
def escSigns : List UInt8 := [34, 92, 47, 98, 102, 110, 114, 116]
def escMeans : List UInt8 := [34, 92, 47, 8, 12, 10, 13, 9]
/-- Is b the i-th sign, of those from i on? -/
def escAt (b : UInt8) : Nat → Nat → Option Nat
  | 0, _ => none
  | k + 1, i => if b = lB escSigns i then some i else escAt b k (i + 1)
def escU (l : List UInt8) : List UInt8 × Nat :=
  if l.length < 6 ∨ lB l 1 ≠ 117 then ([], 0) else
  match hx l 4 with
  | none => ([], 0)
  | some v => if 55296 ≤ v ∧ v ≤ 57343 then ([], 0) else (enc v, 6)
def escS (l : List UInt8) : List UInt8 × Nat :=
  if 1 < l.length then
    match escAt (lB l 1) 8 0 with
    | some i => ([lB escMeans i], 2)
    | none => escU l
  else escU l
/-- A piece of a string's content: what it means, how many bytes it has. -/
def piece (l : List UInt8) : List UInt8 × Nat :=
  if lB l 0 = 92 then escS l else if (rn l).1 < 32 then (l.take (rn l).2, 0) else (l.take (rn l).2, (rn l).2)
def txt (l : List UInt8) : Nat → Nat → List UInt8 → List UInt8 × Nat
  | 0, _, _ => ([], 0)
  | f + 1, k, out => if k < l.length then
      (if lB l k = 34 then (out, k + 1) else if (piece (l.drop k)).2 = 0 then ([], 0) else txt l f (k + (piece (l.drop k)).2) (out ++ (piece (l.drop k)).1))
    else ([], 0)
def inW (b : UInt8) : Bool := decide (97 ≤ b.toNat ∧ b.toNat ≤ 122) || decide (65 ≤ b.toNat ∧ b.toNat ≤ 90) || decide (48 ≤ b.toNat ∧ b.toNat ≤ 57) || decide (b.toNat = 95) || decide (b.toNat = 43) || decide (b.toNat = 45) || decide (b.toNat = 46)
def wl : List UInt8 → Nat
  | [] => 0
  | b :: l => if inW b = true then wl l + 1 else 0
/-- The number of the first k bytes; none, if one is no digit. -/
def nmV (l : List UInt8) : Nat → Option Nat
  | 0 => some 0
  | k + 1 => match nmV l k with
    | none => none
    | some v => if (lB l k).toNat < 48 ∨ 57 < (lB l k).toNat then none else some (10 * v + (lB l k).toNat - 48)
def numW (l : List UInt8) : Int :=
  if l.length = 0 ∨ 19 < l.length ∨ (1 < l.length ∧ lB l 0 = 48) then -1 else
  match nmV l l.length with
  | none => -1
  | some v => if 9223372036854775807 < v then -1 else (v : Int)
/-- Tokens. -/
structure Tk where
  kind : Int
  at_ : Int
  n : Int
  text : List UInt8
def tkZ : Tk := ⟨0, 0, 0, []⟩
def sgns : List UInt8 := [123, 125, 91, 93, 58, 44]
def sgnAt (b : UInt8) : Nat → Nat → Option Nat
  | 0, _ => none
  | k + 1, i => if b = lB sgns i then some i else sgnAt b k (i + 1)
def wdNull : List UInt8 := [110, 117, 108, 108]
def wdTrue : List UInt8 := [116, 114, 117, 101]
def wdFalse : List UInt8 := [102, 97, 108, 115, 101]
def wordTk (w : List UInt8) (n : Nat) : Tk × Nat :=
  if w = wdNull then (⟨7, 0, 0, []⟩, n) else if w = wdTrue then (⟨8, 0, 0, []⟩, n) else if w = wdFalse then (⟨9, 0, 0, []⟩, n) else
  if numW w < 0 then (tkZ, 0) else (⟨10, 0, numW w, []⟩, n)
def oneTk (l : List UInt8) : Tk × Nat :=
  match sgnAt (lB l 0) 6 0 with
  | some i => (⟨(i : Int) + 1, 0, 0, []⟩, 1)
  | none => if lB l 0 = 34 then (⟨11, 0, 0, (txt l l.length 1 []).1⟩, (txt l l.length 1 []).2) else wordTk (l.take (wl l)) (wl l)
def blk (b : UInt8) : Bool := decide (b = 32 ∨ b = 9 ∨ b = 10 ∨ b = 13)
/-- All tokens from k on; with none, where. -/
def cutF (l : List UInt8) : Nat → Nat → List Tk → Option (List Tk) × Nat
  | 0, k, _ => (none, k)
  | f + 1, k, out => if k < l.length then
      (if blk (lB l k) = true then cutF l f (k + 1) out
       else if (oneTk (l.drop k)).2 = 0 then (none, k)
       else cutF l f (k + (oneTk (l.drop k)).2) (out ++ [{ (oneTk (l.drop k)).1 with at_ := (k : Int) }]))
    else (some out, 0)
def cutA (l : List UInt8) : Option (List Tk) × Nat := cutF l (l.length + 1) 0 []
def cutL (l : List UInt8) : List Tk := if 4096 < l.length then [] else (cutA l).1.getD []
def cutE (l : List UInt8) : Int := if 4096 < l.length then 2 else if (cutA l).1.isNone then 30 else 0
def cutP (l : List UInt8) : Int := if 4096 < l.length then 0 else ((cutA l).2 : Int)
/-- A rune in a string. -/
def qRunes : List Nat := [34, 92, 8, 12, 10, 13, 9]
def qSigns : List UInt8 := [34, 92, 98, 102, 110, 114, 116]
def qAt (v : Nat) : Nat → Nat → Option Nat
  | 0, _ => none
  | k + 1, i => if v = qRunes.getD i 0 then some i else qAt v k (i + 1)
def dgC (n : Nat) : UInt8 := if n < 10 then u8 (48 + n) else u8 (87 + n)
def quo (v : Nat) : List UInt8 :=
  match qAt v 7 0 with
  | some i => [92, lB qSigns i]
  | none => if v < 32 then [92, 117, 48, 48, dgC (v / 16), dgC (v % 16)] else enc v
def quF (l : List UInt8) : Nat → Nat → List UInt8 → Option (List UInt8)
  | 0, _, _ => none
  | f + 1, k, out => if k < l.length then
      (if (rn (l.drop k)).2 = 0 then none else quF l f (k + (rn (l.drop k)).2) (out ++ quo (rn (l.drop k)).1))
    else some (out ++ [34])
def quA (l : List UInt8) : Option (List UInt8) := quF l (l.length + 1) 0 [34]
def quS (l : List UInt8) : List UInt8 := (quA l).getD []
def quE (l : List UInt8) : Int := if (quA l).isNone then 30 else 0
end Go.Proofs.YtiokdcffpnjkcaaDoor
