import Derived.WalkKit
import Derived.Laws.BitsAllLaws
import Derived.Test.YtddmmmfpdmejbaaGreatDoorRows
import Derived.WalkSpells
import Derived.WalkLawsBesides
import Derived.Deep.WholeRow
import Derived.Laws.CopyRow
import Derived.Stop.BytesEq
import Derived.Laws.IdiomStrings
import Derived.BigQuiet
import Derived.Orders
import Derived.Deep.MidRow
import Derived.Deep.AppendSrc
import Derived.Deep.AppendLies
import Derived.Deep.DeepCutAuto
namespace Go.Proofs.YtddmmmfpdmejbaaGreatDoor
open Go.RowKit

/-! Plain facts on numbers and bytes; nothing of the program. -/

def upd (s : Nat → UInt8) (i : Nat) (b : UInt8) : Nat → UInt8 := fun j => if j = i then b else s j

end Go.Proofs.YtddmmmfpdmejbaaGreatDoor
namespace Go.Proofs.YtddmmmfpdmejbaaGreatDoor
open Go.RowKit

/-! Names by definition, over lists of bytes -/
def lB (l : List UInt8) (k : Nat) : UInt8 := l[k]?.getD 0
/-! The bytes of a name, and zeros -/
/-! Seen part by part -/
/-! The order of texts -/
end Go.Proofs.YtddmmmfpdmejbaaGreatDoor
namespace Go.Proofs.YtddmmmfpdmejbaaGreatDoor
open Go.RowKit

/-! Runes, tokens and quoted texts by definition, over lists of bytes -/
def isC (b : UInt8) : Bool := decide (128 ≤ b.toNat ∧ b.toNat ≤ 191)
/-- The number that a first part v0 and k bytes that go on make. -/
def cvR (l : List UInt8) (v0 : Nat) : Nat → Option Nat
  | 0 => some v0
  | k + 1 => match cvR l v0 k with
    | none => none
    | some v => if isC (lB l (k + 1)) = true then some (64 * v + (lB l (k + 1)).toNat - 128) else none
def leastR (n : Nat) : Nat := if n = 2 then 128 else if n = 3 then 2048 else 65536
def okR (n v : Nat) : Bool := decide (leastR n ≤ v ∧ v ≤ 1114111 ∧ ¬ (55296 ≤ v ∧ v ≤ 57343))
def rnN (l : List UInt8) (n v0 : Nat) : Nat × Nat := if l.length < n then (0, 0) else
  match cvR l v0 (n - 1) with
  | none => (0, 0)
  | some v => if okR n v = true then (v, n) else (0, 0)
/-- The rune at the front, and how many bytes it has. -/
def rn (l : List UInt8) : Nat × Nat :=
  if l.length = 0 then (0, 0) else
  if (lB l 0).toNat < 128 then ((lB l 0).toNat, 1) else
  if 192 ≤ (lB l 0).toNat ∧ (lB l 0).toNat < 224 then rnN l 2 ((lB l 0).toNat - 192) else
  if 224 ≤ (lB l 0).toNat ∧ (lB l 0).toNat < 240 then rnN l 3 ((lB l 0).toNat - 224) else
  if 240 ≤ (lB l 0).toNat ∧ (lB l 0).toNat < 248 then rnN l 4 ((lB l 0).toNat - 240) else (0, 0)
def u8 (n : Nat) : UInt8 := UInt8.ofNat n
/-- A rune's bytes. -/
def enc (v : Nat) : List UInt8 :=
  if v < 128 then [u8 v] else
  if v < 2048 then [u8 (192 + v / 64), u8 (128 + v % 64)] else
  if v < 65536 then [u8 (224 + v / 4096), u8 (128 + v / 64 % 64), u8 (128 + v % 64)] else
  [u8 (240 + v / 262144), u8 (128 + v / 4096 % 64), u8 (128 + v / 64 % 64), u8 (128 + v % 64)]
/-- A digit of base sixteen; -1: none. -/
def hexV (b : UInt8) : Int :=
  if 48 ≤ b.toNat ∧ b.toNat ≤ 57 then (b.toNat : Int) - 48 else
  if 97 ≤ b.toNat ∧ b.toNat ≤ 102 then (b.toNat : Int) - 97 + 10 else
  if 65 ≤ b.toNat ∧ b.toNat ≤ 70 then (b.toNat : Int) - 65 + 10 else -1
theorem hexV_range (b : UInt8) : -1 ≤ hexV b ∧ hexV b ≤ 15 := by
  unfold hexV
  split
  · omega
  · split
    · omega
    · split <;> omega
/-- The number of k digits from 2 on; none, if one is no digit. -/
def hx (l : List UInt8) : Nat → Option Nat
  | 0 => some 0
  | k + 1 => match hx l k with
    | none => none
    | some v => if hexV (lB l (2 + k)) < 0 then none else some (16 * v + (hexV (lB l (2 + k))).toNat)
def escSigns : List UInt8 := [34, 92, 47, 98, 102, 110, 114, 116]
def escMeans : List UInt8 := [34, 92, 47, 8, 12, 10, 13, 9]
/-- Is b the i-th sign, of those from i on? -/
def escAt (b : UInt8) : Nat → Nat → Option Nat
  | 0, _ => none
  | k + 1, i => if b = lB escSigns i then some i else escAt b k (i + 1)
def escU (l : List UInt8) : List UInt8 × Nat :=
  if l.length < 6 ∨ lB l 1 ≠ 117 then ([], 0) else
  match hx l 4 with
  | none => ([], 0)
  | some v => if 55296 ≤ v ∧ v ≤ 57343 then ([], 0) else (enc v, 6)
def escS (l : List UInt8) : List UInt8 × Nat :=
  if 1 < l.length then
    match escAt (lB l 1) 8 0 with
    | some i => ([lB escMeans i], 2)
    | none => escU l
  else escU l
/-- A piece of a string's content: what it means, how many bytes it has. -/
def piece (l : List UInt8) : List UInt8 × Nat :=
  if lB l 0 = 92 then escS l else if (rn l).1 < 32 then (l.take (rn l).2, 0) else (l.take (rn l).2, (rn l).2)
def txt (l : List UInt8) : Nat → Nat → List UInt8 → List UInt8 × Nat
  | 0, _, _ => ([], 0)
  | f + 1, k, out => if k < l.length then
      (if lB l k = 34 then (out, k + 1) else if (piece (l.drop k)).2 = 0 then ([], 0) else txt l f (k + (piece (l.drop k)).2) (out ++ (piece (l.drop k)).1))
    else ([], 0)
def inW (b : UInt8) : Bool := decide (97 ≤ b.toNat ∧ b.toNat ≤ 122) || decide (65 ≤ b.toNat ∧ b.toNat ≤ 90) || decide (48 ≤ b.toNat ∧ b.toNat ≤ 57) || decide (b.toNat = 95) || decide (b.toNat = 43) || decide (b.toNat = 45) || decide (b.toNat = 46)
def wl : List UInt8 → Nat
  | [] => 0
  | b :: l => if inW b = true then wl l + 1 else 0
/-- The number of the first k bytes; none, if one is no digit. -/
def nmV (l : List UInt8) : Nat → Option Nat
  | 0 => some 0
  | k + 1 => match nmV l k with
    | none => none
    | some v => if (lB l k).toNat < 48 ∨ 57 < (lB l k).toNat then none else some (10 * v + (lB l k).toNat - 48)
def numW (l : List UInt8) : Int :=
  if l.length = 0 ∨ 19 < l.length ∨ (1 < l.length ∧ lB l 0 = 48) then -1 else
  match nmV l l.length with
  | none => -1
  | some v => if 9223372036854775807 < v then -1 else (v : Int)
/-- Tokens. -/
structure Tk where
  kind : Int
  at_ : Int
  n : Int
  text : List UInt8
def tkZ : Tk := ⟨0, 0, 0, []⟩
def sgns : List UInt8 := [123, 125, 91, 93, 58, 44]
def sgnAt (b : UInt8) : Nat → Nat → Option Nat
  | 0, _ => none
  | k + 1, i => if b = lB sgns i then some i else sgnAt b k (i + 1)
def wdNull : List UInt8 := [110, 117, 108, 108]
def wdTrue : List UInt8 := [116, 114, 117, 101]
def wdFalse : List UInt8 := [102, 97, 108, 115, 101]
def wordTk (w : List UInt8) (n : Nat) : Tk × Nat :=
  if w = wdNull then (⟨7, 0, 0, []⟩, n) else if w = wdTrue then (⟨8, 0, 0, []⟩, n) else if w = wdFalse then (⟨9, 0, 0, []⟩, n) else
  if numW w < 0 then (tkZ, 0) else (⟨10, 0, numW w, []⟩, n)
def oneTk (l : List UInt8) : Tk × Nat :=
  match sgnAt (lB l 0) 6 0 with
  | some i => (⟨(i : Int) + 1, 0, 0, []⟩, 1)
  | none => if lB l 0 = 34 then (⟨11, 0, 0, (txt l l.length 1 []).1⟩, (txt l l.length 1 []).2) else wordTk (l.take (wl l)) (wl l)
def blk (b : UInt8) : Bool := decide (b = 32 ∨ b = 9 ∨ b = 10 ∨ b = 13)
/-- All tokens from k on; with none, where. -/
def cutF (l : List UInt8) : Nat → Nat → List Tk → Option (List Tk) × Nat
  | 0, k, _ => (none, k)
  | f + 1, k, out => if k < l.length then
      (if blk (lB l k) = true then cutF l f (k + 1) out
       else if (oneTk (l.drop k)).2 = 0 then (none, k)
       else cutF l f (k + (oneTk (l.drop k)).2) (out ++ [{ (oneTk (l.drop k)).1 with at_ := (k : Int) }]))
    else (some out, 0)
def cutA (l : List UInt8) : Option (List Tk) × Nat := cutF l (l.length + 1) 0 []
def cutL (l : List UInt8) : List Tk := if 4096 < l.length then [] else (cutA l).1.getD []
def cutE (l : List UInt8) : Int := if 4096 < l.length then 2 else if (cutA l).1.isNone then 30 else 0
def cutP (l : List UInt8) : Int := if 4096 < l.length then 0 else ((cutA l).2 : Int)
/-- A rune in a string. -/
def qRunes : List Nat := [34, 92, 8, 12, 10, 13, 9]
def qSigns : List UInt8 := [34, 92, 98, 102, 110, 114, 116]
def qAt (v : Nat) : Nat → Nat → Option Nat
  | 0, _ => none
  | k + 1, i => if v = qRunes.getD i 0 then some i else qAt v k (i + 1)
def dgC (n : Nat) : UInt8 := if n < 10 then u8 (48 + n) else u8 (87 + n)
def quo (v : Nat) : List UInt8 :=
  match qAt v 7 0 with
  | some i => [92, lB qSigns i]
  | none => if v < 32 then [92, 117, 48, 48, dgC (v / 16), dgC (v % 16)] else enc v
def quF (l : List UInt8) : Nat → Nat → List UInt8 → Option (List UInt8)
  | 0, _, _ => none
  | f + 1, k, out => if k < l.length then
      (if (rn (l.drop k)).2 = 0 then none else quF l f (k + (rn (l.drop k)).2) (out ++ quo (rn (l.drop k)).1))
    else some (out ++ [34])
def quA (l : List UInt8) : Option (List UInt8) := quF l (l.length + 1) 0 [34]
def quS (l : List UInt8) : List UInt8 := (quA l).getD []
def quE (l : List UInt8) : Int := if (quA l).isNone then 30 else 0
end Go.Proofs.YtddmmmfpdmejbaaGreatDoor
namespace Go.Proofs.YtddmmmfpdmejbaaGreatDoor
open Go.RowKit

/-! json's mathematics: values, and how tokens become one -/
structure Nd where mk ::
  k : Int
  n : Int
  s : List UInt8
  keys : List (List UInt8)
  vals : List Nd
theorem Nd.ind {P : Nd → Prop} (h : ∀ k n s ks vs, (∀ d ∈ vs, P d) → P (.mk k n s ks vs)) : ∀ d, P d
  | .mk k n s ks vs => h k n s ks vs fun d _ => Nd.ind h d
def ndZ : Nd := .mk 0 0 [] [] []
def ndK (k n : Int) (s : List UInt8) : Nd := .mk k n s [] []
structure Ps where
  i : Nat
  e : Int
  bad : Int
  op : Nat
def tkP (ts : List Tk) (i : Nat) : Tk := ts[i]?.getD tkZ
def atP (ts : List Tk) (en : Int) (s : Ps) : Int := if s.i < ts.length then (tkP ts s.i).at_ else en
def failP (s : Ps) (e a : Int) : Ps := if s.e = 0 then ⟨s.i, e, a, s.op⟩ else s
def isP (ts : List Tk) (k : Int) (s : Ps) : Bool := decide (s.e = 0) && (decide (s.i < ts.length) && decide ((tkP ts s.i).kind = k))
def advP (s : Ps) : Ps := ⟨s.i + 1, s.e, s.bad, s.op⟩
def needP (ts : List Tk) (en k : Int) (s : Ps) : Ps := bif isP ts k s then advP s else failP s 31 (atP ts en s)
def upP (s : Ps) : Ps := ⟨s.i, s.e, s.bad, s.op + 1⟩
def opnP (ts : List Tk) (s : Ps) : Ps := if 6 < s.op + 1 then failP (upP s) 32 (tkP ts (s.i - 1)).at_ else upP s
def clsP (s : Ps) : Ps := ⟨s.i, s.e, s.bad, s.op - 1⟩
/-- Has the object the key already? -/
def twcP (ts : List Tk) (en : Int) (ks : List (List UInt8)) (s : Ps) : Ps := if (tkP ts s.i).text ∈ ks then failP (advP s) 33 (atP ts en s) else advP s
def pairP (ts : List Tk) (en : Int) (V : Ps → Nd × Ps) (ks : List (List UInt8)) (vs : List Nd) (s : Ps) : List (List UInt8) × List Nd × Ps :=
  bif isP ts 11 s then (ks ++ [(tkP ts s.i).text], vs ++ [(V (needP ts en 5 (twcP ts en ks s))).1], (V (needP ts en 5 (twcP ts en ks s))).2)
  else (ks, vs, failP s 31 (atP ts en s))
abbrev Md := Option (List Nd ⊕ (List (List UInt8) × List Nd))
theorem Md.cs {motive : Md → Prop} (v : motive none) (l : ∀ acc, motive (some (.inl acc))) (o : ∀ ks vs, motive (some (.inr (ks, vs)))) : ∀ m : Md, motive m
  | none => v
  | some (.inl acc) => l acc
  | some (.inr (ks, vs)) => o ks vs
/-- Behind an element: on, or the end. -/
def lstE (ts : List Tk) (en : Int) (P : Md → Ps → Nd × Ps) (acc : List Nd) (s : Ps) : Nd × Ps :=
  bif isP ts 6 s then P ((some (.inl acc))) (advP s) else (.mk 5 0 [] [] acc, clsP (needP ts en 4 s))
def objE (ts : List Tk) (en : Int) (P : Md → Ps → Nd × Ps) (r : List (List UInt8) × List Nd × Ps) : Nd × Ps :=
  bif isP ts 6 r.2.2 then P ((some (.inr (r.1, r.2.1)))) (advP r.2.2) else (.mk 6 0 [] r.1 r.2.1, clsP (needP ts en 2 r.2.2))
/-- list(), object(): behind the sign -/
def lstB (ts : List Tk) (P : Md → Ps → Nd × Ps) (s : Ps) : Nd × Ps :=
  bif isP ts 4 (opnP ts s) then (.mk 5 0 [] [] [], clsP (advP (opnP ts s))) else P ((some (.inl []))) (opnP ts s)
def objB (ts : List Tk) (P : Md → Ps → Nd × Ps) (s : Ps) : Nd × Ps :=
  bif isP ts 2 (opnP ts s) then (.mk 6 0 [] [] [], clsP (advP (opnP ts s))) else P ((some (.inr ([], [])))) (opnP ts s)
def prsF (ts : List Tk) (en : Int) : Nat → Md → Ps → Nd × Ps
  | 0, _, s => (ndZ, s)
  | f + 1, none, s =>
    if s.e ≠ 0 then (ndZ, s)
    else bif isP ts 7 s then (ndK 1 0 [], advP s)
    else bif isP ts 8 s then (ndK 2 1 [], advP s)
    else bif isP ts 9 s then (ndK 2 0 [], advP s)
    else bif isP ts 10 s then (ndK 3 (tkP ts s.i).n [], advP s)
    else bif isP ts 11 s then (ndK 4 0 (tkP ts s.i).text, advP s)
    else bif isP ts 3 s then lstB ts (prsF ts en f) (advP s)
    else bif isP ts 1 s then objB ts (prsF ts en f) (advP s)
    else (ndZ, failP s 31 (atP ts en s))
  | f + 1, (some (.inl acc)), s => lstE ts en (prsF ts en f) (acc ++ [(prsF ts en f none s).1]) (prsF ts en f none s).2
  | f + 1, (some (.inr (ks, vs))), s => objE ts en (prsF ts en f) (pairP ts en (prsF ts en f none) ks vs s)
def ps0 : Ps := ⟨0, 0, 0, 0⟩
/-- All tokens: the value, or what is wrong and where -/
def endP (ts : List Tk) (en : Int) (r : Nd × Ps) : Ps := if r.2.e = 0 ∧ r.2.i < ts.length then failP r.2 14 (atP ts en r.2) else r.2
def prsT (ts : List Tk) (en : Int) : Nd × Int × Int :=
  if (endP ts en (prsF ts en (2 * ts.length + 1) none ps0)).e = 0 then ((prsF ts en (2 * ts.length + 1) none ps0).1, 0, 0)
  else (ndZ, (endP ts en (prsF ts en (2 * ts.length + 1) none ps0)).e, (endP ts en (prsF ts en (2 * ts.length + 1) none ps0)).bad)
/-- Parse -/
def prsA (l : List UInt8) : Nd × Int × Int := if cutE l = 0 then prsT (cutL l) (l.length : Int) else (ndZ, cutE l, cutP l)
/-! What the states keep -/
theorem isP_spec {ts : List Tk} {k : Int} {s : Ps} (h : isP ts k s = true) : s.e = 0 ∧ s.i < ts.length ∧ (tkP ts s.i).kind = k := by
  unfold isP at h
  simp only [Bool.and_eq_true, decide_eq_true_eq] at h
  exact h
@[simp] theorem advP_i (s : Ps) : (advP s).i = s.i + 1 := rfl
@[simp] theorem advP_op (s : Ps) : (advP s).op = s.op := rfl
@[simp] theorem clsP_i (s : Ps) : (clsP s).i = s.i := rfl
@[simp] theorem clsP_op (s : Ps) : (clsP s).op = s.op - 1 := rfl
@[simp] theorem failP_i (s : Ps) (e a : Int) : (failP s e a).i = s.i := by unfold failP; split <;> rfl
@[simp] theorem failP_op (s : Ps) (e a : Int) : (failP s e a).op = s.op := by unfold failP; split <;> rfl
@[simp] theorem opnP_i (ts : List Tk) (s : Ps) : (opnP ts s).i = s.i := by unfold opnP; split <;> simp [upP]
@[simp] theorem opnP_op (ts : List Tk) (s : Ps) : (opnP ts s).op = s.op + 1 := by unfold opnP; split <;> simp [upP]
@[simp] theorem needP_op (ts : List Tk) (en k : Int) (s : Ps) : (needP ts en k s).op = s.op := by unfold needP; cases isP ts k s <;> simp [advP]
@[simp] theorem twcP_op (ts : List Tk) (en : Int) (ks : List (List UInt8)) (s : Ps) : (twcP ts en ks s).op = s.op := by unfold twcP; split <;> simp [advP]
@[simp] theorem twcP_i (ts : List Tk) (en : Int) (ks : List (List UInt8)) (s : Ps) : (twcP ts en ks s).i = s.i + 1 := by unfold twcP; split <;> simp [advP]
theorem needP_i (ts : List Tk) (en k : Int) (s : Ps) (h : s.i ≤ ts.length) : s.i ≤ (needP ts en k s).i ∧ (needP ts en k s).i ≤ ts.length := by
  unfold needP
  cases hk : isP ts k s with
  | true => have := (isP_spec hk).2.1; simp only [cond_true, advP]; omega
  | false => simp only [cond_false, failP_i]; omega
/-- Where a state may be: within the tokens, no more open than gone through; of a list or an object that is gone through one at least. -/
def okP (ts : List Tk) (m : Md) (s : Ps) : Prop := s.i ≤ ts.length ∧ s.op ≤ s.i ∧ (match m with | none => True | _ => 1 ≤ s.op)
def leP (ts : List Tk) (m : Md) (s t : Ps) : Prop := s.i ≤ t.i ∧ t.i ≤ ts.length ∧ (match m with | none => t.op = s.op | _ => t.op + 1 = s.op)
theorem leP_fail {ts : List Tk} {s : Ps} (e a : Int) (h : s.i ≤ ts.length) : leP ts none s (failP s e a) := ⟨by simp, by simpa using h, by simp⟩
theorem prsF_ok (ts : List Tk) (en : Int) : ∀ (f : Nat) (m : Md) (s : Ps), 2 * (ts.length - s.i) + (match m with | none => 1 | _ => 2) ≤ f → okP ts m s → leP ts m s (prsF ts en f m s).2
  | 0, none, s => fun h _ => by simp at h
  | 0, (some (.inl _)), s => fun h _ => by simp at h
  | 0, (some (.inr (_, _))), s => fun h _ => by simp at h
  | f + 1, none, s => fun hf h => by
    obtain ⟨h1, h2, -⟩ := h
    have adv : ∀ k, isP ts k s = true → leP ts none s (advP s) := fun k hk => by
      have := (isP_spec hk).2.1
      exact ⟨by simp, by simp only [advP_i]; omega, rfl⟩
    rw [prsF]
    split
    · exact ⟨Nat.le_refl _, h1, rfl⟩
    · cases h7 : isP ts 7 s with
      | true => exact adv _ h7
      | false =>
        cases h8 : isP ts 8 s with
        | true => exact adv _ h8
        | false =>
          cases h9 : isP ts 9 s with
          | true => exact adv _ h9
          | false =>
            cases h10 : isP ts 10 s with
            | true => exact adv _ h10
            | false =>
              cases h11 : isP ts 11 s with
              | true => exact adv _ h11
              | false =>
                cases h3 : isP ts 3 s with
                | true =>
                  have hi := (isP_spec h3).2.1
                  simp only [cond_true, cond_false]
                  unfold lstB
                  cases h4 : isP ts 4 (opnP ts (advP s)) with
                  | true =>
                    have h5 := (isP_spec h4).2.1
                    simp only [opnP_i, advP_i] at h5
                    simp only [cond_true]
                    exact ⟨by simp; omega, by simp; omega, by simp⟩
                  | false =>
                    simp only [cond_false]
                    have := prsF_ok ts en f ((some (.inl []))) (opnP ts (advP s)) (by simp at hf ⊢; omega) ⟨by simp; omega, by simp; omega, by simp⟩
                    obtain ⟨a, b, c⟩ := this
                    simp at a c
                    exact ⟨by omega, b, by omega⟩
                | false =>
                  cases h0 : isP ts 1 s with
                  | true =>
                    have hi := (isP_spec h0).2.1
                    simp only [cond_true, cond_false]
                    unfold objB
                    cases h4 : isP ts 2 (opnP ts (advP s)) with
                    | true =>
                      have h5 := (isP_spec h4).2.1
                      simp only [opnP_i, advP_i] at h5
                      simp only [cond_true]
                      exact ⟨by simp; omega, by simp; omega, by simp⟩
                    | false =>
                      simp only [cond_false]
                      have := prsF_ok ts en f ((some (.inr ([], [])))) (opnP ts (advP s)) (by simp at hf ⊢; omega) ⟨by simp; omega, by simp; omega, by simp⟩
                      obtain ⟨a, b, c⟩ := this
                      simp at a c
                      exact ⟨by omega, b, by omega⟩
                  | false => exact leP_fail _ _ h1
  | f + 1, (some (.inl acc)), s => fun hf h => by
    obtain ⟨h1, h2, h3⟩ := h
    simp only at h3 hf
    obtain ⟨a, b, c⟩ := prsF_ok ts en f none s (by simp; omega) ⟨h1, h2, trivial⟩
    simp only at c
    rw [prsF]
    unfold lstE
    cases h6 : isP ts 6 (prsF ts en f none s).2 with
    | true =>
      have h7 := (isP_spec h6).2.1
      simp only [cond_true]
      obtain ⟨a2, b2, c2⟩ := prsF_ok ts en f ((some (.inl (acc ++ [(prsF ts en f none s).1])))) (advP (prsF ts en f none s).2) (by simp; omega) ⟨by simp; omega, by simp; omega, by simp; omega⟩
      simp at a2 b2 c2
      exact ⟨by omega, b2, by simp only; omega⟩
    | false =>
      simp only [cond_false]
      have := needP_i ts en 4 _ b
      exact ⟨by simp; omega, by simp; omega, by simp; omega⟩
  | f + 1, (some (.inr (ks, vs))), s => fun hf h => by
    obtain ⟨h1, h2, h3⟩ := h
    simp only at h3 hf
    have hp : leP ts none s (pairP ts en (prsF ts en f none) ks vs s).2.2 := by
      unfold pairP
      cases h11 : isP ts 11 s with
      | true =>
        have hi := (isP_spec h11).2.1
        simp only [cond_true]
        have hn := needP_i ts en 5 (twcP ts en ks s) (by simp; omega)
        simp at hn
        obtain ⟨a, b, c⟩ := prsF_ok ts en f none (needP ts en 5 (twcP ts en ks s)) (by simp; omega) ⟨by omega, by simp; omega, trivial⟩
        simp at c
        exact ⟨by omega, b, by simp only; omega⟩
      | false => simp only [cond_false]; exact leP_fail _ _ h1
    obtain ⟨a, b, c⟩ := hp
    simp only at c
    rw [prsF]
    unfold objE
    cases h6 : isP ts 6 (pairP ts en (prsF ts en f none) ks vs s).2.2 with
    | true =>
      have h7 := (isP_spec h6).2.1
      simp only [cond_true]
      obtain ⟨a2, b2, c2⟩ := prsF_ok ts en f ((some (.inr ((pairP ts en (prsF ts en f none) ks vs s).1, (pairP ts en (prsF ts en f none) ks vs s).2.1)))) (advP (pairP ts en (prsF ts en f none) ks vs s).2.2) (by simp; omega) ⟨by simp; omega, by simp; omega, by simp; omega⟩
      simp at a2 b2 c2
      exact ⟨by omega, b2, by simp only; omega⟩
    | false =>
      simp only [cond_false]
      have := needP_i ts en 2 _ b
      exact ⟨by simp; omega, by simp; omega, by simp; omega⟩
end Go.Proofs.YtddmmmfpdmejbaaGreatDoor
namespace Go.Proofs.YtddmmmfpdmejbaaGreatDoor
open Go.RowKit

/-! A sector as a function from places to bytes, its cells, and the model's operations on whole sectors. -/

def secA (s : Nat → UInt8) : Array Value := Array.ofFn (n := 64) fun i => Value.int .u8 ((s i).toNat : Int)
@[simp, go_sem] theorem secA_size (s : Nat → UInt8) : (secA s).size = 64 := by simp [secA]
theorem secA_get (s : Nat → UInt8) (i : Nat) (h : i < 64) : (secA s)[i]? = some (Value.int .u8 ((s i).toNat : Int)) := by simp [secA, h]
@[simp, go_sem] theorem secA_getElem (s : Nat → UInt8) (i : Nat) (h : i < (secA s).size) : (secA s)[i] = Value.int .u8 ((s i).toNat : Int) := by simp [secA]
theorem secA_of (c : Array Value) (hs : c.size = 64) (h : ∀ i, i < 64 → ∃ x : Int, c[i]? = some (Value.int .u8 x) ∧ 0 ≤ x ∧ x ≤ 255) : ∃ s, c = secA s := by
  refine ⟨fun i => match c[i]? with | some (Value.int _ x) => UInt8.ofNat x.toNat | _ => 0, ?_⟩
  apply Array.ext_getElem?
  intro i
  by_cases hi : i < 64
  · obtain ⟨x, hx, h0, h1⟩ := h i hi
    rw [secA_get _ i hi, hx]
    simp only [UInt8.toNat_ofNat', Option.some.injEq, Value.int.injEq, true_and]
    omega
  · rw [Array.getElem?_eq_none (by omega), Array.getElem?_eq_none (by simp; omega)]

/-- The cells of a block; is it a row of 64 that may be written? -/
def rowAt (w : World) (n : Nat) : Array Value := match w.heap[n]? with | some (.cells c _ _) => c | _ => #[]
def rowOk (w : World) (n : Nat) : Bool := match w.heap[n]? with | some (.cells c _ fr) => c.size == 64 && fr == (0, 0) | _ => false
@[go_sem] theorem rowAt_drew (w : World) (n : Nat) : rowAt w.drew n = rowAt w n := rfl
@[go_sem] theorem rowOk_drew (w : World) (n : Nat) : rowOk w.drew n = rowOk w n := rfl
@[go_sem] theorem setRow_drew' (w : World) (n : Nat) (c : Array Value) : w.drew.setRow n c = (w.setRow n c).drew := rfl
@[go_sem] theorem rowAt_new (w : World) (n : Nat) (c : Array Value) (t : TypeId) (h : n = w.heap.size) : rowAt (w.alloc (.cells c t)) n = c := by
  subst h; unfold rowAt; rw [heap_alloc_last]
@[go_sem] theorem rowOk_new (w : World) (n : Nat) (c : Array Value) (t : TypeId) (h : n = w.heap.size) (hc : c.size = 64) : rowOk (w.alloc (.cells c t)) n = true := by
  subst h; unfold rowOk; rw [heap_alloc_last]; simp [hc]
@[go_sem] theorem rowAt_old (w : World) (n : Nat) (o : Obj) (h : n < w.heap.size) : rowAt (w.alloc o) n = rowAt w n := by
  unfold rowAt; rw [Below.heap_alloc w o n h]
@[go_sem] theorem rowOk_old (w : World) (n : Nat) (o : Obj) (h : n < w.heap.size) : rowOk (w.alloc o) n = rowOk w n := by
  unfold rowOk; rw [Below.heap_alloc w o n h]
@[go_sem] theorem setRow_new (w : World) (n : Nat) (c c' : Array Value) (t : TypeId) (h : n = w.heap.size) : (w.alloc (.cells c t)).setRow n c' = w.alloc (.cells c' t) := by
  subst h; exact World.setRow_alloc_new w c c' t
@[go_sem] theorem setRow_old (w : World) (n : Nat) (c' : Array Value) (o : Obj) (h : n < w.heap.size) : (w.alloc o).setRow n c' = (w.setRow n c').alloc o := by
  simp only [World.setRow, World.alloc]
  congr 1
  apply Array.ext_getElem?
  intro i
  rw [Array.getElem?_modify]
  simp only [Array.getElem?_push, Array.size_modify, Array.getElem?_modify]
  by_cases h1 : n = i
  · subst h1
    have : ¬ n = w.heap.size := by omega
    simp [this]
  · simp [h1]
theorem row_of_ok {w : World} {n : Nat} (h : rowOk w n = true) : ∃ t, w.heap[n]? = some (.cells (rowAt w n) t (0, 0)) ∧ (rowAt w n).size = 64 := by
  unfold rowOk at h
  unfold rowAt
  cases hq : w.heap[n]? with
  | none => simp [hq] at h
  | some o =>
    cases o with
    | cells c t fr =>
      simp [hq] at h
      obtain ⟨h1, h2⟩ := h
      subst h2
      exact ⟨t, rfl, h1⟩
    | _ => simp [hq] at h

@[go_sem] theorem rowAt_setRow_same (w : World) (n : Nat) (c : Array Value) (h : rowOk w n = true) : rowAt (w.setRow n c) n = c := by
  obtain ⟨t, hg, _⟩ := row_of_ok h
  unfold rowAt; rw [setRow_heap w n _ c t _ hg]
@[go_sem] theorem rowOk_setRow_same (w : World) (n : Nat) (c : Array Value) (h : rowOk w n = true) (hc : c.size = 64) : rowOk (w.setRow n c) n = true := by
  obtain ⟨t, hg, _⟩ := row_of_ok h
  unfold rowOk; rw [setRow_heap w n _ c t _ hg]; simp [hc]
/-- Behind a call that has turned nothing old: the old rows are as they were. -/
theorem rows_below {B : Nat} {W w1 : World} (hb : Below B W w1) : (∀ n, n < B → rowOk w1 n = rowOk W n) ∧ (∀ n, n < B → rowAt w1 n = rowAt W n) :=
  ⟨fun n h => by unfold rowOk; rw [hb.block n h], fun n h => by unfold rowAt; rw [hb.block n h]⟩
theorem after {W w1 : World} (hb : Below W.heap.size W w1) : (∀ n, n < W.heap.size → rowOk w1 n = rowOk W n) ∧ (∀ n, n < W.heap.size → rowAt w1 n = rowAt W n) ∧
    (∀ b o, b < W.heap.size → w1.cell? ⟨b, o, none⟩ = W.cell? ⟨b, o, none⟩) ∧ (∀ b o, b < W.heap.size → w1.frozen? ⟨b, o, none⟩ = W.frozen? ⟨b, o, none⟩) ∧ W.heap.size ≤ w1.heap.size :=
  ⟨(rows_below hb).1, (rows_below hb).2, fun b o h => hb.cell (p := ⟨b, o, none⟩) h, fun b o h => hb.frozen (p := ⟨b, o, none⟩) h, hb.size⟩
theorem keepRow {B n : Nat} {W w1 : World} {c : Array Value} (hb : Below B W w1) (h : n < B) (hk : rowOk W n = true) (hc : rowAt W n = c) : rowOk w1 n = true ∧ rowAt w1 n = c :=
  ⟨by rw [(rows_below hb).1 n h]; exact hk, by rw [(rows_below hb).2 n h]; exact hc⟩
theorem cell_rowAt {w : World} {n : Nat} (h : rowOk w n = true) (i : Nat) : w.cell? ⟨n, i, none⟩ = (rowAt w n)[i]? := by
  obtain ⟨t, hg, _⟩ := row_of_ok h
  exact cell_of_row w n i _ t _ hg
theorem lt_of_rowOk {w : World} {n : Nat} (h : rowOk w n = true) : n < w.heap.size := by
  obtain ⟨t, hg, _⟩ := row_of_ok h
  exact (Array.getElem?_eq_some_iff.1 hg).1
/-- Nothing below B has turned, and the row k, not below B, holds s. -/
def Held (B k : Nat) (W : World) (s : Nat → UInt8) (w : World) : Prop := B ≤ k ∧ Below B W w ∧ rowOk w k = true ∧ rowAt w k = secA s
theorem Held.below {B k : Nat} {W w w1 : World} {s : Nat → UInt8} (h : Held B k W s w) (hb : Below w.heap.size w w1) : Held B k W s w1 := by
  obtain ⟨h0, h1, h2, h3⟩ := h
  have h9 := lt_of_rowOk h2
  obtain ⟨h4, h5⟩ := keepRow hb h9 h2 h3
  exact ⟨h0, h1.trans (hb.mono (by omega)), h4, h5⟩
theorem Held.drew {B k : Nat} {W w : World} {s : Nat → UInt8} (h : Held B k W s w) : Held B k W s w.drew := ⟨h.1, h.2.1.drew, h.2.2.1, h.2.2.2⟩
theorem Held.cell {B k : Nat} {W w : World} {s : Nat → UInt8} (h : Held B k W s w) (i : Nat) (hi : i < 64) : w.cell? ⟨k, i, none⟩ = some (Value.int .u8 ((s i).toNat : Int)) := by
  rw [cell_rowAt h.2.2.1, h.2.2.2, secA_get s i hi]
theorem Held.start (w : World) (s : Nat → UInt8) (t : TypeId) : Held w.heap.size w.heap.size w s (w.alloc (.cells (secA s) t)) :=
  ⟨Nat.le_refl _, (Below.refl _ _).alloc (Nat.le_refl _) _, rowOk_new _ _ _ _ rfl (secA_size _), rowAt_new _ _ _ _ rfl⟩

section
variable (ρ : Operand → Value) (dst : Option Tmp) (ty ty' : TypeId) (pos : String) (after : Array Edge) (guard : Option (Nat × Bool))
end
theorem heap_setCell (w : World) (g i : Nat) (v : Value) (c : Array Value) (t : TypeId) (fr : Nat × Nat) (h : w.heap[g]? = some (.cells c t fr)) : (w.setCell ⟨g, i, none⟩ v).heap[g]? = some (.cells (c.setIfInBounds i v) t fr) := by
  unfold World.setCell
  rw [Array.getElem?_modify, if_pos rfl, h]
  rfl
theorem below_alloc (w : World) (o : Obj) : Below w.heap.size w (w.alloc o) := (Below.refl _ _).alloc (Nat.le_refl _) _
end Go.Proofs.YtddmmmfpdmejbaaGreatDoor
namespace Go.Proofs.YtddmmmfpdmejbaaGreatDoor
open Go.RowKit

/-! Numbers read -/
/-! Numbers put -/
/-! The calls whose answers the document fixes -/
end Go.Proofs.YtddmmmfpdmejbaaGreatDoor
namespace Go.Proofs.YtddmmmfpdmejbaaGreatDoor
open Go.RowKit

/-! Slices of bytes -/
def bytesA (l : List UInt8) : Array Value := (l.map fun b => Value.int .u8 (b.toNat : Int)).toArray
@[simp, go_sem] theorem bytesA_size (l : List UInt8) : (bytesA l).size = l.length := by simp [bytesA]
theorem bytesA_get (l : List UInt8) (i : Nat) (h : i < l.length) : (bytesA l)[i]? = some (Value.int .u8 (l[i].toNat : Int)) := by simp [bytesA, h]
/-- The value v is a slice whose elements are the bytes l. -/
def IsB (w : World) (v : Value) (l : List UInt8) : Prop :=
  (v = .slice none 0 0 ∧ l = []) ∨ ∃ x c, v = .slice (some x) l.length c ∧ ∀ i (h : i < l.length), w.cell? (x.add i) = some (Value.int .u8 (l[i].toNat : Int))
theorem IsB.len {w : World} {v : Value} {l : List UInt8} (h : IsB w v l) : ∃ x c, v = .slice x l.length c := by
  rcases h with ⟨rfl, rfl⟩ | ⟨x, c, rfl, _⟩
  · exact ⟨none, 0, rfl⟩
  · exact ⟨some x, c, rfl⟩
theorem IsB.lt {w : World} {x : Addr} {n c : Nat} {l : List UInt8} (h : IsB w (.slice (some x) n c) l) (h0 : l ≠ []) : x.block < w.heap.size := by
  rcases h with ⟨h, _⟩ | ⟨y, d, he, hc⟩
  · cases h
  · simp only [Value.slice.injEq, Option.some.injEq] at he
    obtain ⟨rfl, _, _⟩ := he
    have h1 : 0 < l.length := List.length_pos_iff.2 h0
    have := World.block_lt_of_cell? w _ (hc 0 h1)
    have e : (x.add 0).block = x.block := by unfold Addr.add; split <;> rfl
    rwa [e] at this
theorem Addr.add_block (x : Addr) (i : Nat) : (x.add i).block = x.block := by unfold Addr.add; split <;> rfl
theorem IsB.below {B : Nat} {w w1 : World} {v : Value} {l : List UInt8} (h : IsB w v l) (hb : Below B w w1) (hB : ∀ x n c, v = .slice (some x) n c → l ≠ [] → x.block < B) : IsB w1 v l := by
  rcases h with h | ⟨x, c, rfl, hc⟩
  · exact .inl h
  · refine .inr ⟨x, c, rfl, fun i hi => ?_⟩
    have h0 : l ≠ [] := by rintro rfl; simp at hi
    rw [hb.cell (by rw [Addr.add_block]; exact hB x _ _ rfl h0)]
    exact hc i hi
theorem IsB.kept {w w1 : World} {v : Value} {l : List UInt8} (h : IsB w v l) (hb : Below w.heap.size w w1) : IsB w1 v l :=
  h.below hb fun x n c e h0 => by subst e; exact h.lt h0
theorem IsB.drew {w : World} {v : Value} {l : List UInt8} (h : IsB w v l) : IsB w.drew v l := h
/-- 'string(b)' -/
theorem IsB.str {w : World} {v : Value} {l : List UInt8} (h : IsB w v l) : (convert 26 9 v).run Tryz.prog w = .ok (.string ⟨l.toArray⟩) w := by
  rcases h with ⟨rfl, rfl⟩ | ⟨x, c, rfl, hc⟩
  · rw [run_convert_bytes_string w _ _ 5 none 0 0 Tryz.underlying26 Tryz.underlying5 Tryz.underlying9]; rfl
  · exact run_convert_bytes_back w _ _ 5 x c l Tryz.underlying26 Tryz.underlying5 Tryz.underlying9 hc
/-! Bytes read -/
def subL (s : Nat → UInt8) (a n : Nat) : List UInt8 := (List.range n).map fun i => s (a + i)
@[simp] theorem subL_length (s : Nat → UInt8) (a n : Nat) : (subL s a n).length = n := by simp [subL]
theorem subL_get (s : Nat → UInt8) (a n i : Nat) (h : i < (subL s a n).length) : (subL s a n)[i] = s (a + i) := by simp [subL]
/-- A block that holds the bytes l. -/
def rowB (w : World) (g : Nat) (l : List UInt8) : Prop := w.heap[g]? = some (.cells (bytesA l) 5 (0, 0))
theorem rowB.cell {w : World} {g : Nat} {l : List UInt8} (h : rowB w g l) (i : Nat) (hi : i < l.length) : w.cell? ⟨g, i, none⟩ = some (Value.int .u8 (l[i].toNat : Int)) := by
  rw [cell_of_row w g i _ _ _ h, bytesA_get l i hi]
theorem rowB.lt {w : World} {g : Nat} {l : List UInt8} (h : rowB w g l) : g < w.heap.size := (Array.getElem?_eq_some_iff.1 h).1
theorem rowB.kept {w w1 : World} {g : Nat} {l : List UInt8} (h : rowB w g l) (hb : Below w.heap.size w w1) : rowB w1 g l := by unfold rowB; rw [hb.block g h.lt]; exact h
theorem IsB.spot {w : World} {x : Option Addr} {c : Nat} {l : List UInt8} (hv : IsB w (.slice x l.length c) l) (k : Nat) (hk : k < l.length) :
    ∃ b o, x = some ⟨b, o, none⟩ ∧ b < w.heap.size ∧ w.cell? ⟨b, o + k, none⟩ = some (Value.int .u8 ((l[k]?.getD 0).toNat : Int)) := by
  rcases hv with ⟨_, rfl⟩ | ⟨y, d, he, hc⟩
  · simp at hk
  · simp only [Value.slice.injEq, true_and] at he
    obtain ⟨rfl, rfl⟩ := he
    have h9 := hc k hk
    obtain ⟨b, o, sp⟩ := y
    have hsp : sp = none := by simpa [Addr.add] using World.cell?_spot (hc 0 (by omega))
    subst hsp
    have hlt := World.block_lt_of_cell? w _ h9
    have hadd : (⟨b, o, none⟩ : Addr).add k = ⟨b, o + k, none⟩ := by unfold Addr.add; split <;> simp_all
    rw [hadd] at h9 hlt
    exact ⟨b, o, rfl, hlt, by rw [h9]; simp [hk]⟩

theorem addr_add (b o i : Nat) : (⟨b, o, none⟩ : Addr).add i = ⟨b, o + i, none⟩ := by unfold Addr.add; split <;> simp_all
end Go.Proofs.YtddmmmfpdmejbaaGreatDoor
namespace Go.Proofs.YtddmmmfpdmejbaaGreatDoor
open Go.RowKit

/-! Strings as lists of bytes -/
def lS (s : ByteArray) : List UInt8 := s.data.toList
theorem lS_len (s : ByteArray) : (lS s).length = s.size := by unfold lS; rw [Array.length_toList]; rfl
theorem lS_mk (l : List UInt8) : lS ⟨l.toArray⟩ = l := by unfold lS; simp
theorem lS_inj {s t : ByteArray} (h : lS s = lS t) : s = t := by
  unfold lS at h
  cases s; cases t
  simp only [Array.toList_inj] at h
  rw [h]
def sAt (x i : Value) : Sem Next := do pure (.value (← Instr.index 9 x i))
def sCut (x lo hi : Value) : Sem Next := do pure (.value (← Instr.sliceAt 9 x (some lo) (some hi) none))
def sCut0 (x hi : Value) : Sem Next := do pure (.value (← Instr.sliceAt 9 x none (some hi) none))
def sCut1 (x lo : Value) : Sem Next := do pure (.value (← Instr.sliceAt 9 x (some lo) none none))
section
variable (ρ : Operand → Value) (dst : Option Tmp) (ty : TypeId) (pos : String) (after : Array Edge) (guard : Option (Nat × Bool))
@[go_sem ↓] theorem execOp_sAt (x i : Operand) : execOp ρ { dst, op := .index 9 x i, type := ty, pos, after, guard } = sAt (ρ x) (ρ i) := rfl
@[go_sem ↓] theorem execOp_sCut (x lo hi : Operand) : execOp ρ { dst, op := .slice 9 x (some lo) (some hi) none, type := ty, pos, after, guard } = sCut (ρ x) (ρ lo) (ρ hi) := rfl
@[go_sem ↓] theorem execOp_sCut0 (x hi : Operand) : execOp ρ { dst, op := .slice 9 x none (some hi) none, type := ty, pos, after, guard } = sCut0 (ρ x) (ρ hi) := rfl
@[go_sem ↓] theorem execOp_sCut1 (x lo : Operand) : execOp ρ { dst, op := .slice 9 x (some lo) none none, type := ty, pos, after, guard } = sCut1 (ρ x) (ρ lo) := rfl
end
@[go_sem] theorem run_sAt (w : World) (s : ByteArray) (k : Nat) (h : (k : Int) < (s.size : Int)) : (sAt (.string s) (.int .i64 (k : Int))).run Tryz.prog w = .ok (.value (.int .u8 ((lB (lS s) k).toNat : Int))) w := by
  have hk : k < s.size := by omega
  have hg : s[k]? = some (lB (lS s) k) := by
    rw [getElem?_pos s k hk]
    unfold lB lS
    have h2 : k < s.data.size := hk
    rw [Array.getElem?_toList, Array.getElem?_eq_getElem h2]; rfl
  simp [sAt, Instr.index, run_underlying Tryz.underlying9, asIntOf, hg]
@[go_sem] theorem run_sCut (w : World) (s : ByteArray) (lo hi : Nat) (a1 : (lo : Int) ≤ (hi : Int)) (a2 : (hi : Int) ≤ (s.size : Int)) : (sCut (.string s) (.int .i64 (lo : Int)) (.int .i64 (hi : Int))).run Tryz.prog w = .ok (.value (.string (s.extract lo hi))) w := by
  have b1 : ∀ W : World, (Instr.sliceBound (.int .i64 (hi : Int)) s.size BoundsCode.sliceAlen).run Tryz.prog W = .ok hi W := fun W => by
    have := run_sliceBound (P := Tryz.prog) W .i64 (hi : Int) s.size BoundsCode.sliceAlen (by omega) a2
    simpa using this
  have b2 : ∀ W : World, (Instr.sliceBound (.int .i64 (lo : Int)) hi BoundsCode.sliceB).run Tryz.prog W = .ok lo W := fun W => by
    have := run_sliceBound (P := Tryz.prog) W .i64 (lo : Int) hi BoundsCode.sliceB (by omega) a1
    simpa using this
  simp [sCut, Instr.sliceAt, Instr.slice, run_underlying Tryz.underlying9, Instr.sliceBounds, b1, b2]
theorem run_sCut0 (w : World) (s : ByteArray) (hi : Nat) (a2 : hi ≤ s.size) : (sCut0 (.string s) (.int .i64 (hi : Int))).run Tryz.prog w = .ok (.value (.string (s.extract 0 hi))) w := by
  have b1 : ∀ W : World, (Instr.sliceBound (.int .i64 (hi : Int)) s.size BoundsCode.sliceAlen).run Tryz.prog W = .ok hi W := fun W => by
    have := run_sliceBound (P := Tryz.prog) W .i64 (hi : Int) s.size BoundsCode.sliceAlen (by omega) (by omega)
    simpa using this
  simp [sCut0, Instr.sliceAt, Instr.slice, run_underlying Tryz.underlying9, Instr.sliceBounds, b1]
theorem run_sCut1 (w : World) (s : ByteArray) (lo : Nat) (a2 : lo ≤ s.size) : (sCut1 (.string s) (.int .i64 (lo : Int))).run Tryz.prog w = .ok (.value (.string (s.extract lo s.size))) w := by
  have b1 : ∀ W : World, (Instr.sliceBound (.int .i64 (lo : Int)) s.size BoundsCode.sliceB).run Tryz.prog W = .ok lo W := fun W => by
    have := run_sliceBound (P := Tryz.prog) W .i64 (lo : Int) s.size BoundsCode.sliceB (by omega) (by omega)
    simpa using this
  simp [sCut1, Instr.sliceAt, Instr.slice, run_underlying Tryz.underlying9, Instr.sliceBounds, b1]
theorem lS_cut (s : ByteArray) (lo hi : Nat) : lS (s.extract lo hi) = ((lS s).drop lo).take (hi - lo) := by
  unfold lS
  rw [ByteArray.data_extract, Array.toList_extract]
end Go.Proofs.YtddmmmfpdmejbaaGreatDoor
namespace Go.Proofs.YtddmmmfpdmejbaaGreatDoor
open Go.RowKit

/-! A region that draws its order, whose operations read rows that nobody writes, and whose calls leave those rows alone: one walk in the order of the text. -/

/-- A world of which p is known. -/
structure Kw (p : World → Prop) where
  w : World
  ok : p w
/-- A callee's contract inside such a region. -/
theorem Calls.kept {p : World → Prop} {f : FuncId} {args : Array Value} {w : World} {v : Value} {R : World → Prop} (h : Calls Tryz.prog f args w fun e w' => e = .returned v ∧ R w') (hR : ∀ w', R w' → p w') :
    Calls Tryz.prog f args w fun e w' => e = .returned v ∧ ∃ m : Kw p, w' = m.w :=
  h.mono fun _ w' ⟨he, hr⟩ => ⟨he, ⟨w', hR w' hr⟩, rfl⟩

end Go.Proofs.YtddmmmfpdmejbaaGreatDoor
namespace Go.Proofs.YtddmmmfpdmejbaaGreatDoor
open Go.RowKit

/-! A region that draws its order, in whatever order its operations come: each operation owes what it leaves in its slot (a fact that stays true while memory grows), out of what those owe that it waits for. Nothing that was there turns. -/

def slot (a : Act) (o : Oper) : Value := match o.dst with | some d => a.eval (.tmp d) | none => undef
/-- The slot holds this value. -/
def Fx (c : Value) : Value → World → Prop := fun v _ => v = c
def outB (l : List Oper) (t : Nat) : Bool := l.all fun o => !(o.dst == some t)
def dep1 (l : List Oper) (φ : List (Value → World → Prop)) (a : Act) (w : World) (j : Nat) : Prop :=
  match l[j]?, φ[j]? with
  | some o, some f => f (slot a o) w
  | _, _ => True
def depsOf (l : List Oper) (φ : List (Value → World → Prop)) (a : Act) (w : World) : List Edge → Prop
  | [] => True
  | e :: r => (Region.binds .any e = true → dep1 l φ a w e.on) ∧ depsOf l φ a w r
/-- One operation's duty. -/
def Duty (l : List Oper) (φ : List (Value → World → Prop)) (W : World) (a0 : Act) (Q : Exit → Act → World → Prop) (o : Oper) (f : Value → World → Prop) : Prop :=
  ∀ a w, Below W.heap.size W w → (∀ t, outB l t = true → a.eval (.tmp t) = a0.eval (.tmp t)) → depsOf l φ a w o.after.toList →
    (Region.wanted o (yielded l.toArray a.tmps) = true → o.wp Tryz.prog a w (fun a' w' => ∃ v, a' = a.put o.dst v ∧ f v w' ∧ Below w.heap.size w w') Q) ∧
    (Region.wanted o (yielded l.toArray a.tmps) = false → f undef w)
def Duties (l : List Oper) (φ : List (Value → World → Prop)) (W : World) (a0 : Act) (Q : Exit → Act → World → Prop) : List Oper → List (Value → World → Prop) → Prop
  | o :: r, f :: g => Duty l φ W a0 Q o f ∧ Duties l φ W a0 Q r g
  | _, _ => True
def puts (vs : Nat → Value) : List Oper → Nat → Act → Act
  | [], _, a => a
  | o :: r, k, a => puts vs r (k + 1) (a.put o.dst (vs k))
def owed (vs : Nat → Value) (w : World) : List (Value → World → Prop) → Nat → Prop
  | [], _ => True
  | f :: g, k => f (vs k) w ∧ owed vs w g (k + 1)
/-- The closed facts: the slots differ; each waits for earlier ones alone; at most one operation more than duties, and it waits for all. -/
def relyB (l : List Oper) (m : Nat) : Bool :=
  (List.range l.length).all (fun i => (List.range l.length).all fun j => i == j || (match l[i]?, l[j]? with | some a, some b => a.dst.isNone || !(a.dst == b.dst) | _, _ => true)) &&
  (List.range l.length).all (fun i => match l[i]? with | some o => o.after.all fun e => decide (e.on < i) | none => true) &&
  decide (m ≤ l.length) && decide (l.length ≤ m + 1) &&
  (match l[m]? with | some o => (List.range m).all (fun j => o.after.toList.any fun e => e.on == j && Region.binds .any e) | none => true)

def dstB (l : List Oper) (n : Nat) : Bool := l.all fun o => match o.dst with | some d => decide (d < n) | none => false
theorem duties_get {l : List Oper} {φ : List (Value → World → Prop)} {W : World} {a0 : Act} {Q : Exit → Act → World → Prop} : ∀ {r : List Oper} {g : List (Value → World → Prop)}, Duties l φ W a0 Q r g →
    ∀ (i : Nat) o f, r[i]? = some o → g[i]? = some f → Duty l φ W a0 Q o f
  | [], _, _, _, _, _, h, _ => by simp at h
  | _ :: _, [], _, _, _, _, _, h => by simp at h
  | o :: r, f :: g, h, 0, o', f', h1, h2 => by simp at h1 h2; subst h1; subst h2; exact h.1
  | o :: r, f :: g, h, i + 1, o', f', h1, h2 => duties_get h.2 i o' f' (by simpa using h1) (by simpa using h2)
theorem depsOf_of {l : List Oper} {φ : List (Value → World → Prop)} {a : Act} {w : World} : ∀ (es : List Edge), (∀ e ∈ es, Region.binds .any e = true → dep1 l φ a w e.on) → depsOf l φ a w es
  | [], _ => trivial
  | e :: r, h => ⟨h e (by simp), depsOf_of r fun e' he => h e' (by simp [he])⟩
theorem owed_of {vs : Nat → Value} {w : World} : ∀ (φ : List (Value → World → Prop)) (k : Nat), (∀ (i : Nat) f, φ[i]? = some f → f (vs (k + i)) w) → owed vs w φ k
  | [], _, _ => trivial
  | f :: g, k, h => ⟨h 0 f rfl, owed_of g (k + 1) fun i f' hf => by rw [Nat.add_assoc, Nat.add_comm 1 i]; exact h (i + 1) f' (by simpa using hf)⟩
theorem eval_tmp (a : Act) (t : Nat) : a.eval (.tmp t) = a.tmps.getD t undef := rfl
theorem size_put (a : Act) (d : Option Tmp) (v : Value) : (a.put d v).tmps.size = a.tmps.size := by cases d <;> simp [Act.put]
theorem defers_put (a : Act) (d : Option Tmp) (v : Value) : (a.put d v).defers = a.defers := by cases d <;> simp [Act.put]
/-- A frame is the first one with the slots laid over. -/
theorem puts_eq (vs : Nat → Value) (a : Act) : ∀ (l : List Oper) (k : Nat) (a0 : Act), a.defers = a0.defers → a.tmps.size = a0.tmps.size →
    (∀ t, outB l t = true → a.eval (.tmp t) = a0.eval (.tmp t)) → (∀ (i : Nat) o d, l[i]? = some o → o.dst = some d → vs (k + i) = a.eval (.tmp d)) → a = puts vs l k a0
  | [], _, a0, hd, hs, ho, _ => by
    obtain ⟨t, d⟩ := a
    obtain ⟨t0, d0⟩ := a0
    simp only at hd hs
    subst hd
    have : t = t0 := by
      apply Array.ext hs
      intro i h1 h2
      have := ho i (by simp [outB])
      simpa [eval_tmp, h1, h2] using this
    rw [this]; rfl
  | o :: r, k, a0, hd, hs, ho, hv => by
    refine puts_eq vs a r (k + 1) (a0.put o.dst (vs k)) (by rw [defers_put]; exact hd) (by rw [size_put]; exact hs) (fun t ht => ?_) (fun i o' d h1 h2 => by
      rw [Nat.add_assoc, Nat.add_comm 1 i]; exact hv (i + 1) o' d (by simpa using h1) h2)
    by_cases h : o.dst = some t
    · have h1 := hv 0 o t rfl h
      rw [h, Nat.add_zero] at *
      rw [h1]
      by_cases hlt : t < a0.tmps.size
      · simp [eval_tmp, Act.put, hlt]
      · simp [eval_tmp, Act.put, hlt, hs]
    · rw [Act.eval_put (x := .tmp t) (fun d hd' he => h (by rw [hd']; cases he; rfl))]
      exact ho t (by simp only [outB, List.all_cons, Bool.and_eq_true] at ht ⊢; exact ⟨by simp [h], ht⟩)
theorem filter_lt (f g : Nat → Bool) (i : Nat) (hfi : f i = true) (hgi : g i = false) (hle : ∀ j, g j = true → f j = true) : ∀ l : List Nat, i ∈ l → (l.filter g).length < (l.filter f).length
  | [], h => by cases h
  | x :: l, h => by
    have hmono : (l.filter g).length ≤ (l.filter f).length := by
      clear h
      induction l with
      | nil => simp
      | cons y l ih =>
        by_cases hy : g y = true
        · simp [hy, hle y hy]; omega
        · simp only [List.filter_cons, hy]
          by_cases hy' : f y = true <;> simp [hy'] <;> omega
    by_cases hx : x = i
    · subst hx; simp [hfi, hgi]; omega
    · have ih := filter_lt f g i hfi hgi hle l (by simpa [Ne.symm hx] using h)
      by_cases hy : g x = true
      · simp [hy, hle x hy]; omega
      · simp only [List.filter_cons, hy]
        by_cases hy' : f x = true <;> simp [hy'] <;> omega

/-- What holds while the region goes: of those that have come up what they owe. -/
def RI (l : List Oper) (φ : List (Value → World → Prop)) (W : World) (a0 : Act) (listed : Array Bool) (a : Act) (w : World) : Prop :=
  Below W.heap.size W w ∧ a.defers = a0.defers ∧ a.tmps.size = a0.tmps.size ∧ (∀ t, outB (l.take φ.length) t = true → a.eval (.tmp t) = a0.eval (.tmp t)) ∧
  ∀ (i : Nat) o f, l[i]? = some o → φ[i]? = some f → listed.getD i false = true → f (slot a o) w
theorem slot_put_ne {a : Act} {o o' : Oper} (v : Value) (h : o'.dst.isNone = true ∨ o'.dst ≠ o.dst) : slot (a.put o.dst v) o' = slot a o' := by
  unfold slot
  cases hd : o'.dst with
  | none => rfl
  | some d => exact Act.eval_put (x := .tmp d) (fun e he hc => by cases hc; rcases h with h | h <;> simp [hd, he] at h)
theorem allListed {l : List Oper} (hB : ∀ (i : Nat) o, l[i]? = some o → ∀ e ∈ o.after, e.on < i) {listed : Array Bool} (hsz : listed.size = l.length) (hr : Region.ready .any l.toArray listed = []) :
    ∀ i, i < l.length → listed.getD i false = true := by
  intro i
  induction i using Nat.strongRecOn with
  | _ i ih =>
    intro hi
    cases hl : listed.getD i false with
    | true => rfl
    | false =>
      have hj : i ∈ Region.ready .any l.toArray listed := by
        rw [mem_ready]
        refine ⟨?_, l[i], by simp [hi], fun e he _ => ih e.on (hB i _ (List.getElem?_eq_getElem hi) e he) ?_⟩
        · have : i < listed.size := by omega
          simpa [this] using hl
        · have := hB i _ (List.getElem?_eq_getElem hi) e he; omega
      rw [hr] at hj; cases hj
theorem ready_nil {l : List Oper} {listed : Array Bool} (h : ∀ i, i < l.length → listed.getD i false = true) : Region.ready .any l.toArray listed = [] := by
  apply List.eq_nil_iff_forall_not_mem.2
  intro i hi
  rw [mem_ready] at hi
  obtain ⟨h0, o, ho, _⟩ := hi
  have hlt : i < l.length := by have := (Array.getElem?_eq_some_iff.1 ho).1; simpa using this
  have h1 := h i hlt
  by_cases hs : i < listed.size
  · simp [hs] at h0 h1; rw [h0] at h1; cases h1
  · simp [hs] at h1
theorem wpAny_end {l : List Oper} {Q : Exit → Act → World → Prop} {listed : Array Bool} {a : Act} {w : World} (h : ∀ i, i < l.length → listed.getD i false = true) (hq : Q .normal a w) : ∀ fuel, wpAny Tryz.prog .any l.toArray Q fuel listed a w
  | 0 => ⟨ready_nil h, hq⟩
  | fuel + 1 => ⟨fun _ => hq, by rw [ready_nil h]; simp⟩
theorem relyB_spec {l : List Oper} {m : Nat} (h : relyB l m = true) :
    (∀ (i j : Nat) a b, l[i]? = some a → l[j]? = some b → i ≠ j → a.dst.isNone = true ∨ a.dst ≠ b.dst) ∧ (∀ (i : Nat) o, l[i]? = some o → ∀ e ∈ o.after, e.on < i) ∧ m ≤ l.length ∧ l.length ≤ m + 1 ∧
    (∀ o, l[m]? = some o → ∀ j, j < m → ∃ e ∈ o.after, e.on = j ∧ Region.binds .any e = true) := by
  simp only [relyB, Bool.and_eq_true, List.all_eq_true, List.mem_range, decide_eq_true_eq] at h
  obtain ⟨⟨⟨⟨h1, h2⟩, h3⟩, h4⟩, h5⟩ := h
  refine ⟨fun i j a b hi hj hne => ?_, fun i o hi e he => ?_, h3, h4, fun o ho j hj => ?_⟩
  · have := h1 i (List.getElem?_eq_some_iff.1 hi).1 j (List.getElem?_eq_some_iff.1 hj).1
    simp only [hi, hj, Bool.or_eq_true, beq_iff_eq, Bool.not_eq_true', beq_eq_false_iff_ne] at this
    rcases this with h | h | h
    · exact absurd h hne
    · exact .inl h
    · exact .inr h
  · have := h2 i (List.getElem?_eq_some_iff.1 hi).1
    simp only [hi, Array.all_eq_true_iff_forall_mem, decide_eq_true_eq] at this
    exact this e he
  · simp only [ho, List.all_eq_true, List.mem_range, List.any_eq_true, Bool.and_eq_true, beq_iff_eq] at h5
    obtain ⟨e, he, h6, h7⟩ := h5 j hj
    exact ⟨e, by simpa using he, h6, h7⟩
theorem rely_any {l : List Oper} {φ : List (Value → World → Prop)} {W : World} {a0 : Act} {Q : Exit → Act → World → Prop} (hB : relyB l φ.length = true) (hD : dstB (l.take φ.length) a0.tmps.size = true)
    (hmono : ∀ f ∈ φ, ∀ v w w', f v w → Below w.heap.size w w' → f v w') (hstep : Duties l φ W a0 Q l φ)
    (hend : ∀ vs w, Below W.heap.size W w → owed vs w φ 0 → wpList Tryz.prog l.toArray Q (l.drop φ.length) (puts vs (l.take φ.length) 0 a0) w) :
    ∀ (fuel : Nat) (listed : Array Bool) (a : Act) (w : World), ((List.range l.length).filter fun j => !listed.getD j false).length ≤ fuel → listed.size = l.length →
      (φ.length < l.length → listed.getD φ.length false = false) → RI l φ W a0 listed a w → wpAny Tryz.prog .any l.toArray Q fuel listed a w := by
  obtain ⟨hne, hlt, hm1, hm2, htail⟩ := relyB_spec hB
  have fin : ∀ (listed : Array Bool) (a : Act) (w : World), (∀ i, i < φ.length → listed.getD i false = true) → RI l φ W a0 listed a w → wpList Tryz.prog l.toArray Q (l.drop φ.length) a w := by
    intro listed a w hall hI
    obtain ⟨hb, hd, hs, hout, hf⟩ := hI
    have hv : ∀ (i : Nat) o f, l[i]? = some o → φ[i]? = some f → f (slot a o) w := fun i o f h1 h2 => hf i o f h1 h2 (hall i (List.getElem?_eq_some_iff.1 h2).1)
    have e := puts_eq (fun i => match l[i]? with | some o => slot a o | none => undef) a (l.take φ.length) 0 a0 hd hs hout (fun i o d h1 h2 => by
      have h1' : l[i]? = some o := by rw [List.getElem?_take] at h1; split at h1; exact h1; cases h1
      simp [h1', slot, h2])
    rw [e]
    refine hend _ w hb (owed_of φ 0 fun i f hi => ?_)
    have hi' : i < l.length := by have := (List.getElem?_eq_some_iff.1 hi).1; omega
    simp only [Nat.zero_add, List.getElem?_eq_getElem hi']
    exact hv i _ f (List.getElem?_eq_getElem hi') hi
  have none_left : ∀ (listed : Array Bool) (a : Act) (w : World), (∀ i, i < l.length → listed.getD i false = true) → (φ.length < l.length → listed.getD φ.length false = false) → RI l φ W a0 listed a w → Q .normal a w := by
    intro listed a w hall ht hI
    have e : φ.length = l.length := by
      rcases Nat.lt_or_ge φ.length l.length with h | h
      · have := ht h; rw [hall _ h] at this; cases this
      · omega
    have := fin listed a w (fun i hi => hall i (by omega)) hI
    rw [e, List.drop_length] at this
    exact this
  intro fuel
  induction fuel with
  | zero =>
    intro listed a w hc hsz ht hI
    have hall : ∀ i, i < l.length → listed.getD i false = true := fun i hi => by
      cases hl : listed.getD i false with
      | true => rfl
      | false =>
        have : i ∈ (List.range l.length).filter fun j => !listed.getD j false := by
          rw [List.mem_filter, hl]; simp [hi]
        have := List.length_pos_of_mem this; omega
    exact ⟨ready_nil hall, none_left listed a w hall ht hI⟩
  | succ fuel ih =>
    intro listed a w hc hsz ht hI
    refine ⟨fun hr => none_left listed a w (allListed hlt hsz hr) ht hI, fun i hi => ?_⟩
    rw [mem_ready] at hi
    obtain ⟨hun, o, ho, hdep⟩ := hi
    have ho' : l[i]? = some o := by simpa using ho
    have hil : i < l.length := (List.getElem?_eq_some_iff.1 ho').1
    have hif : listed.getD i false = false := by
      have : i < listed.size := by omega
      simpa [this] using hun
    have hset : ∀ j, j ≠ i → (listed.setIfInBounds i true).getD j false = listed.getD j false := fun j hj => getD_set_ne false (Ne.symm hj)
    have hseti : (listed.setIfInBounds i true).getD i false = true := by
      have : i < listed.size := by omega
      simp [this]
    rcases Nat.lt_or_ge i φ.length with him | him
    · -- a duty
      have hfi : φ[i]? = some φ[i] := List.getElem?_eq_getElem him
      have hcnt : ((List.range l.length).filter fun j => !(listed.setIfInBounds i true).getD j false).length ≤ fuel := by
        have := filter_lt (fun j => !listed.getD j false) (fun j => !(listed.setIfInBounds i true).getD j false) i (by simp only [hif]; rfl) (by simp only [hseti]; rfl) (fun j hj => by
          by_cases hji : j = i
          · subst hji; simp only [hif]; rfl
          · simp only [hset j hji] at hj; exact hj) (List.range l.length) (by simpa using hil)
        omega
      have htl : φ.length < l.length → (listed.setIfInBounds i true).getD φ.length false = false := fun h => by rw [hset _ (by omega)]; exact ht h
      obtain ⟨hb, hd, hs, hout, hf⟩ := hI
      have hdeps : depsOf l φ a w o.after.toList := depsOf_of _ fun e he hbd => by
        unfold dep1
        split
        · rename_i oj f h1 h2
          exact hf e.on oj f h1 h2 (hdep e (by simpa using he) hbd)
        · trivial
      have hsub : ∀ t, outB l t = true → outB (l.take φ.length) t = true := fun t h => by
        simp only [outB, List.all_eq_true] at h ⊢
        exact fun x hx => h x (List.mem_of_mem_take hx)
      obtain ⟨hw1, hw2⟩ := duties_get hstep i o φ[i] ho' hfi a w hb (fun t h => hout t (hsub t h)) hdeps
      have hnew : ∀ v w', φ[i] v w' → Below w.heap.size w w' → RI l φ W a0 (listed.setIfInBounds i true) (a.put o.dst v) w' := fun v w' hφ hg => by
        refine ⟨hb.trans (hg.mono hb.size), by rw [defers_put]; exact hd, by rw [size_put]; exact hs, fun t h => ?_, fun j oj f h1 h2 h3 => ?_⟩
        · rw [Act.eval_put (x := .tmp t) (fun d hd' he => by
            cases he
            simp only [outB, List.all_eq_true] at h
            have hmem : o ∈ l.take φ.length := by
              rw [List.mem_iff_getElem?]; exact ⟨i, by rw [List.getElem?_take, if_pos him]; exact ho'⟩
            have := h o hmem
            simp [hd'] at this)]
          exact hout t h
        · by_cases hji : j = i
          · subst hji
            rw [ho'] at h1; cases h1
            rw [hfi] at h2; cases h2
            have hmem : o ∈ l.take φ.length := by
              rw [List.mem_iff_getElem?]; exact ⟨j, by rw [List.getElem?_take, if_pos him]; exact ho'⟩
            simp only [dstB, List.all_eq_true] at hD
            have hd1 := hD o hmem
            unfold slot
            cases hdo : o.dst with
            | none => simp [hdo] at hd1
            | some d =>
              have hd2 : d < a0.tmps.size := by simpa [hdo] using hd1
              have e : (a.put (some d) v).eval (.tmp d) = v := by
                have : d < a.tmps.size := by rw [hs]; exact hd2
                simp [eval_tmp, Act.put, this]
              simp only [e]
              exact hφ
          · rw [slot_put_ne v (hne j i oj o h1 ho' hji)]
            exact hmono f (List.mem_of_getElem? h2) _ _ _ (hf j oj f h1 h2 (by rw [← hset j hji]; exact h3)) hg
      unfold wpOp
      simp only [List.getElem?_toArray, ho']
      split
      · rename_i hw
        refine .inl (Oper.wp_mono (fun a' w' h => ?_) (hw1 hw))
        obtain ⟨v, rfl, hφ, hg⟩ := h
        exact ih _ _ _ hcnt (by simpa using hsz) htl (hnew v w' hφ hg)
      · rename_i hw
        exact ih _ _ _ hcnt (by simpa using hsz) htl (hnew undef w (hw2 (by simpa using hw)) (Below.refl _ _))
    · -- the last one
      have hil' : i = φ.length := by omega
      have hall : ∀ j, j < φ.length → listed.getD j false = true := fun j hj => by
        obtain ⟨e, he, h1, h2⟩ := htail o (by rw [← hil']; exact ho') j hj
        rw [← h1]; exact hdep e he h2
      have hx := fin listed a w hall hI
      have hdrop : l.drop φ.length = [o] := by
        rw [← hil', List.drop_eq_getElem_cons hil, List.drop_of_length_le (by omega)]
        have := ho'; rw [List.getElem?_eq_getElem hil] at this; cases this; rfl
      rw [hdrop] at hx
      have hl2 : ∀ j, j < l.length → (listed.setIfInBounds i true).getD j false = true := fun j hj => by
        by_cases hji : j = i
        · subst hji; exact hseti
        · rw [hset j hji]; exact hall j (by omega)
      unfold wpOp
      simp only [List.getElem?_toArray, ho']
      unfold wpList at hx
      split
      · rename_i hw
        simp only [hw, if_true] at hx
        exact hx.imp (Oper.wp_mono fun a' w' h => wpAny_end hl2 h fuel) id
      · rename_i hw
        simp only [hw] at hx
        exact wpAny_end hl2 hx fuel

/-- THE RULE. -/
theorem wp_region_rely {l : List Oper} {id : Nat} {W : World} {a0 : Act} {Q : Exit → Act → World → Prop} (φ : List (Value → World → Prop)) (hB : relyB l φ.length = true) (hD : dstB (l.take φ.length) a0.tmps.size = true)
    (hmono : ∀ f ∈ φ, ∀ v w w', f v w → Below w.heap.size w w' → f v w') (hstep : Duties l φ W a0 Q l φ)
    (hend : ∀ vs w, Below W.heap.size W w → owed vs w φ 0 → wpList Tryz.prog l.toArray Q (l.drop φ.length) (puts vs (l.take φ.length) 0 a0) w) : (Code.region id l.toArray true).wp Tryz.prog Q a0 W := by
  refine wp_region_any (by kernel_rfl) (rely_any hB hD hmono hstep hend _ _ _ _ ?_ (by simp) (fun h => by simp [h]) ⟨(Below.refl _ _).drew, rfl, rfl, fun _ _ => rfl, fun i o f _ _ h => by
    exfalso
    rw [Array.getD_eq_getD_getElem?, Array.getElem?_replicate] at h
    split at h <;> simp at h⟩)
  have := List.length_filter_le (fun j => !(Array.replicate l.toArray.size false).getD j false) (List.range l.length)
  simpa using this
theorem Fx_mono (c v : Value) (w w' : World) (h : Fx c v w) (_ : Below w.heap.size w w') : Fx c v w' := h
/-! The duties said of what the operands hold, the frame out of sight. -/
def slotR (ρ : Operand → Value) (o : Oper) : Value := match o.dst with | some d => ρ (.tmp d) | none => undef
def depR (l : List Oper) (φ : List (Value → World → Prop)) (ρ : Operand → Value) (x : World) (j : Nat) : Prop :=
  match l[j]?, φ[j]? with
  | some o, some f => f (slotR ρ o) x
  | _, _ => True
def depsR (l : List Oper) (φ : List (Value → World → Prop)) (ρ : Operand → Value) (x : World) : List Edge → Prop
  | [] => True
  | e :: r => (Region.binds .any e = true → depR l φ ρ x e.on) ∧ depsR l φ ρ x r
def yieldR (l : List Oper) (ρ : Operand → Value) (j : Nat) : Option Bool :=
  match l[j]? with
  | some o => match slotR ρ o with | .bool b => some b | _ => none
  | none => none
def guardR (l : List Oper) (ρ : Operand → Value) (o : Oper) (A B : Prop) : Prop :=
  match o.guard with
  | none => A
  | some (j, b) => (yieldR l ρ j = some b → A) ∧ (yieldR l ρ j ≠ some b → B)
def okUpon (f : Value → World → Prop) (x : World) : Result Next → Prop
  | .ok (.value v) x' => f v x' ∧ Below x.heap.size x x'
  | .ok (.enter fn args) x' => x' = x ∧ Calls Tryz.prog fn args x (fun e w' => ∃ v, e = .returned v ∧ f v w' ∧ Below x.heap.size x w')
  | _ => False
@[go_sem] theorem okUpon_value (f : Value → World → Prop) (x x' : World) (v : Value) : okUpon f x (.ok (.value v) x') = (f v x' ∧ Below x.heap.size x x') := rfl
@[go_sem] theorem okUpon_enter (f : Value → World → Prop) (x x' : World) (fn : FuncId) (args : Array Value) :
    okUpon f x (.ok (.enter fn args) x') = (x' = x ∧ Calls Tryz.prog fn args x (fun e w' => ∃ v, e = .returned v ∧ f v w' ∧ Below x.heap.size x w')) := rfl
@[go_sem] theorem Fx_self (c : Value) (x : World) : Fx c c x = True := eq_true rfl
@[go_sem] theorem below_self (x : World) : Below x.heap.size x x = True := eq_true (Below.refl _ _)
/-- An operation's duty. -/
def DutyR (l : List Oper) (φ : List (Value → World → Prop)) (W : World) (a0 : Act) (o : Oper) (f : Value → World → Prop) : Prop :=
  ∀ (ρ : Operand → Value) (x : World), Below W.heap.size W x → (∀ v, ρ (.const v) = v) → (∀ g, ρ (.global g) = .pointer (some ⟨g, 0, none⟩)) → (∀ k, ρ (.func k) = .func (.func k) #[] #[]) →
    (∀ t, outB l t = true → ρ (.tmp t) = a0.eval (.tmp t)) → depsR l φ ρ x o.after.toList → guardR l ρ o (okUpon f x ((execOp ρ o).run Tryz.prog x)) (f undef x)
def DutiesR (l : List Oper) (φ : List (Value → World → Prop)) (W : World) (a0 : Act) : List Oper → List (Value → World → Prop) → Prop
  | o :: r, f :: g => DutyR l φ W a0 o f ∧ DutiesR l φ W a0 r g
  | _, _ => True
theorem yieldR_eq (l : List Oper) (a : Act) (j : Nat) : yielded l.toArray a.tmps j = yieldR l a.eval j := by
  unfold yielded yieldR slotR
  simp only [List.getElem?_toArray]
  cases h : l[j]? with
  | none => rfl
  | some o =>
    simp only [Option.bind_some]
    cases hd : o.dst with
    | none => rfl
    | some d =>
      simp only [Option.bind_some, eval_tmp, Array.getD_eq_getD_getElem?]
      cases hq : a.tmps[d]? with
      | none => rfl
      | some x => cases x <;> rfl
theorem depsR_of {l : List Oper} {φ : List (Value → World → Prop)} {a : Act} {w : World} : ∀ es : List Edge, depsOf l φ a w es → depsR l φ a.eval w es
  | [], _ => trivial
  | _ :: r, h => ⟨fun hb => h.1 hb, depsR_of r h.2⟩
theorem duty_of {l : List Oper} {φ : List (Value → World → Prop)} {W : World} {a0 : Act} {o : Oper} {f : Value → World → Prop} {Q : Exit → Act → World → Prop} (h : DutyR l φ W a0 o f) : Duty l φ W a0 Q o f := by
  intro a w hb ho hd
  have hx := h a.eval w hb (fun _ => rfl) (fun _ => rfl) (fun _ => rfl) ho (depsR_of _ hd)
  have run : okUpon f w ((execOp a.eval o).run Tryz.prog w) → o.wp Tryz.prog a w (fun a' w' => ∃ v, a' = a.put o.dst v ∧ f v w' ∧ Below w.heap.size w w') Q := by
    intro hk
    unfold Oper.wp
    generalize (execOp a.eval o).run Tryz.prog w = r at hk
    cases r with
    | ok n x' =>
      cases n <;> simp only [okUpon] at hk
      case value v => exact ⟨v, rfl, hk.1, hk.2⟩
      case enter fn args =>
        obtain ⟨rfl, hc⟩ := hk
        exact hc.mono fun e w' ⟨v, he, hf, hb⟩ => by subst he; exact ⟨v, rfl, hf, hb⟩
    | halt e x' => simp only [okUpon] at hk
  unfold guardR at hx
  unfold Region.wanted
  cases hg : o.guard with
  | none => simp only [hg] at hx ⊢; exact ⟨fun _ => run hx, fun h => by cases h⟩
  | some q =>
    obtain ⟨j, b⟩ := q
    simp only [hg] at hx ⊢
    rw [yieldR_eq]
    exact ⟨fun h => run (hx.1 (by simpa using h)), fun h => hx.2 (by simpa using h)⟩
theorem duties_of {l : List Oper} {φ : List (Value → World → Prop)} {W : World} {a0 : Act} {Q : Exit → Act → World → Prop} : ∀ (r : List Oper) (g : List (Value → World → Prop)), DutiesR l φ W a0 r g → Duties l φ W a0 Q r g
  | [], _, _ => by unfold Duties; trivial
  | _ :: _, [], _ => by unfold Duties; trivial
  | _ :: r, _ :: g, h => ⟨duty_of h.1, duties_of r g h.2⟩
/-- THE RULE, as it is used. -/
theorem wp_rely {l : List Oper} {id : Nat} {W : World} {a0 : Act} {Q : Exit → Act → World → Prop} (φ : List (Value → World → Prop)) (hB : relyB l φ.length = true) (hD : dstB (l.take φ.length) a0.tmps.size = true)
    (hmono : ∀ f ∈ φ, ∀ v w w', f v w → Below w.heap.size w w' → f v w') (hstep : DutiesR l φ W a0 l φ)
    (hend : ∀ vs w, Below W.heap.size W w → owed vs w φ 0 → wpList Tryz.prog l.toArray Q (l.drop φ.length) (puts vs (l.take φ.length) 0 a0) w) : (Code.region id l.toArray true).wp Tryz.prog Q a0 W :=
  wp_region_rely φ hB hD hmono (duties_of l φ hstep) hend
theorem all_cons {p : (Value → World → Prop) → Prop} {f : Value → World → Prop} {r : List (Value → World → Prop)} (h : p f) (hr : ∀ g ∈ r, p g) : ∀ g ∈ f :: r, p g := fun g hg => by
  rcases List.mem_cons.1 hg with rfl | hg
  · exact h
  · exact hr g hg
theorem all_nil {p : (Value → World → Prop) → Prop} : ∀ g ∈ ([] : List (Value → World → Prop)), p g := fun g hg => by cases hg

/-- The slots' values, laid one by one: so the walk writes the frame out by itself. -/
def asg (vs : Nat → Value) : List Oper → Nat → List Oper
  | [], _ => []
  | o :: r, k => { dst := o.dst, op := .assign (.const (vs k)), type := 0, pos := "", after := #[], guard := none } :: asg vs r (k + 1)
theorem wpList_asg {ops : Array Oper} {Q : Exit → Act → World → Prop} {w : World} {t : List Oper} (vs : Nat → Value) : ∀ (l : List Oper) (k : Nat) (a : Act), wpList Tryz.prog ops Q (asg vs l k ++ t) a w → wpList Tryz.prog ops Q t (puts vs l k a) w
  | [], _, _, h => h
  | o :: r, k, a, h => by
    refine wpList_asg vs r (k + 1) (a.put o.dst (vs k)) ?_
    simp only [asg, List.cons_append] at h
    unfold wpList at h
    rw [if_pos (show Region.wanted _ _ = true from rfl)] at h
    rcases h with h | ⟨h, _⟩
    · exact h
    · exfalso
      have h1 : noRoomEvent ∈ (#[] : Array _) := h.1
      simp at h1
theorem wp_relies {l : List Oper} {id : Nat} {W : World} {a0 : Act} {Q : Exit → Act → World → Prop} (φ : List (Value → World → Prop)) (hB : relyB l φ.length = true) (hD : dstB (l.take φ.length) a0.tmps.size = true)
    (hmono : ∀ f ∈ φ, ∀ v w w', f v w → Below w.heap.size w w' → f v w') (hstep : DutiesR l φ W a0 l φ)
    (hend : ∀ vs w, Below W.heap.size W w → owed vs w φ 0 → wpList Tryz.prog l.toArray Q (asg vs (l.take φ.length) 0 ++ l.drop φ.length) a0 w) : (Code.region id l.toArray true).wp Tryz.prog Q a0 W :=
  wp_rely φ hB hD hmono hstep fun vs w h1 h2 => wpList_asg vs _ _ _ (hend vs w h1 h2)

/-! The same for a region in the order of its text: so that a guard that is not decided does not part the walk. -/
end Go.Proofs.YtddmmmfpdmejbaaGreatDoor
namespace Go.Proofs.YtddmmmfpdmejbaaGreatDoor
open Go.RowKit

/-! The rule for a region that draws its order, with a tail that is walked in the order of the text: each of the tail waits for all ahead of it. -/
/-- One operation's duty. -/
def DutyT (l : List Oper) (φ : List (Value → World → Prop)) (W : World) (a0 : Act) (Q : Exit → Act → World → Prop) (o : Oper) (f : Value → World → Prop) : Prop :=
  ∀ a w, Below W.heap.size W w → (∀ t, outB (l.take φ.length) t = true → a.eval (.tmp t) = a0.eval (.tmp t)) → depsOf l φ a w o.after.toList →
    (Region.wanted o (yielded l.toArray a.tmps) = true → o.wp Tryz.prog a w (fun a' w' => ∃ v, a' = a.put o.dst v ∧ f v w' ∧ Below w.heap.size w w') Q) ∧
    (Region.wanted o (yielded l.toArray a.tmps) = false → f undef w)
def DutiesT (l : List Oper) (φ : List (Value → World → Prop)) (W : World) (a0 : Act) (Q : Exit → Act → World → Prop) : List Oper → List (Value → World → Prop) → Prop
  | o :: r, f :: g => DutyT l φ W a0 Q o f ∧ DutiesT l φ W a0 Q r g
  | _, _ => True
theorem duties_getT {l : List Oper} {φ : List (Value → World → Prop)} {W : World} {a0 : Act} {Q : Exit → Act → World → Prop} : ∀ {r : List Oper} {g : List (Value → World → Prop)}, DutiesT l φ W a0 Q r g →
    ∀ (i : Nat) o f, r[i]? = some o → g[i]? = some f → DutyT l φ W a0 Q o f
  | [], _, _, _, _, _, h, _ => by simp at h
  | _ :: _, [], _, _, _, _, _, h => by simp at h
  | o :: r, f :: g, h, 0, o', f', h1, h2 => by simp at h1 h2; subst h1; subst h2; exact h.1
  | o :: r, f :: g, h, i + 1, o', f', h1, h2 => duties_getT h.2 i o' f' (by simpa using h1) (by simpa using h2)
/-- An operation's duty. -/
def DutyRT (l : List Oper) (φ : List (Value → World → Prop)) (W : World) (a0 : Act) (o : Oper) (f : Value → World → Prop) : Prop :=
  ∀ (ρ : Operand → Value) (x : World), Below W.heap.size W x → (∀ v, ρ (.const v) = v) → (∀ g, ρ (.global g) = .pointer (some ⟨g, 0, none⟩)) → (∀ k, ρ (.func k) = .func (.func k) #[] #[]) →
    (∀ t, outB (l.take φ.length) t = true → ρ (.tmp t) = a0.eval (.tmp t)) → depsR l φ ρ x o.after.toList → guardR l ρ o (okUpon f x ((execOp ρ o).run Tryz.prog x)) (f undef x)
def DutiesRT (l : List Oper) (φ : List (Value → World → Prop)) (W : World) (a0 : Act) : List Oper → List (Value → World → Prop) → Prop
  | o :: r, f :: g => DutyRT l φ W a0 o f ∧ DutiesRT l φ W a0 r g
  | _, _ => True
theorem duty_ofT {l : List Oper} {φ : List (Value → World → Prop)} {W : World} {a0 : Act} {o : Oper} {f : Value → World → Prop} {Q : Exit → Act → World → Prop} (h : DutyRT l φ W a0 o f) : DutyT l φ W a0 Q o f := by
  intro a w hb ho hd
  have hx := h a.eval w hb (fun _ => rfl) (fun _ => rfl) (fun _ => rfl) ho (depsR_of _ hd)
  have run : okUpon f w ((execOp a.eval o).run Tryz.prog w) → o.wp Tryz.prog a w (fun a' w' => ∃ v, a' = a.put o.dst v ∧ f v w' ∧ Below w.heap.size w w') Q := by
    intro hk
    unfold Oper.wp
    generalize (execOp a.eval o).run Tryz.prog w = r at hk
    cases r with
    | ok n x' =>
      cases n <;> simp only [okUpon] at hk
      case value v => exact ⟨v, rfl, hk.1, hk.2⟩
      case enter fn args =>
        obtain ⟨rfl, hc⟩ := hk
        exact hc.mono fun e w' ⟨v, he, hf, hb⟩ => by subst he; exact ⟨v, rfl, hf, hb⟩
    | halt e x' => simp only [okUpon] at hk
  unfold guardR at hx
  unfold Region.wanted
  cases hg : o.guard with
  | none => simp only [hg] at hx ⊢; exact ⟨fun _ => run hx, fun h => by cases h⟩
  | some q =>
    obtain ⟨j, b⟩ := q
    simp only [hg] at hx ⊢
    rw [yieldR_eq]
    exact ⟨fun h => run (hx.1 (by simpa using h)), fun h => hx.2 (by simpa using h)⟩
theorem duties_ofT {l : List Oper} {φ : List (Value → World → Prop)} {W : World} {a0 : Act} {Q : Exit → Act → World → Prop} : ∀ (r : List Oper) (g : List (Value → World → Prop)), DutiesRT l φ W a0 r g → DutiesT l φ W a0 Q r g
  | [], _, _ => by unfold DutiesT; trivial
  | _ :: _, [], _ => by unfold DutiesT; trivial
  | _ :: r, _ :: g, h => ⟨duty_ofT h.1, duties_ofT r g h.2⟩
def edgeB (l : List Oper) (k j : Nat) : Bool := match l[k]? with | some o => o.after.toList.any fun e => e.on == j && Region.binds .any e | none => false
def tailB (l : List Oper) (m : Nat) : Bool :=
  (List.range l.length).all (fun i => (List.range l.length).all fun j => i == j || (match l[i]?, l[j]? with | some a, some b => a.dst.isNone || !(a.dst == b.dst) | _, _ => true)) &&
  (List.range l.length).all (fun i => match l[i]? with | some o => o.after.all fun e => decide (e.on < i) | none => true) &&
  decide (m < l.length) &&
  (List.range m).all (fun j => (List.range (m + 1)).any fun k => decide (j < k) && edgeB l k j) &&
  (List.range l.length).all (fun i => decide (i ≤ m) || edgeB l i (i - 1))
theorem edgeB_spec {l : List Oper} {k j : Nat} (h : edgeB l k j = true) : ∃ o, l[k]? = some o ∧ ∃ e ∈ o.after, e.on = j ∧ Region.binds .any e = true := by
  unfold edgeB at h
  split at h
  · rename_i o ho
    simp only [List.any_eq_true, Bool.and_eq_true, beq_iff_eq] at h
    obtain ⟨e, he, h6, h7⟩ := h
    exact ⟨o, ho, e, by simpa using he, h6, h7⟩
  · cases h
theorem tailB_spec {l : List Oper} {m : Nat} (h : tailB l m = true) :
    (∀ (i j : Nat) a b, l[i]? = some a → l[j]? = some b → i ≠ j → a.dst.isNone = true ∨ a.dst ≠ b.dst) ∧ (∀ (i : Nat) o, l[i]? = some o → ∀ e ∈ o.after, e.on < i) ∧ m < l.length ∧
    (∀ j, j < m → ∃ k, j < k ∧ k ≤ m ∧ edgeB l k j = true) ∧ (∀ i, m < i → i < l.length → edgeB l i (i - 1) = true) := by
  simp only [tailB, Bool.and_eq_true, List.all_eq_true, List.mem_range, decide_eq_true_eq] at h
  obtain ⟨⟨⟨⟨h1, h2⟩, h3⟩, h4⟩, h5⟩ := h
  refine ⟨fun i j a b hi hj hne => ?_, fun i o hi e he => ?_, h3, fun j hj => ?_, fun i h h' => ?_⟩
  · have := h1 i (List.getElem?_eq_some_iff.1 hi).1 j (List.getElem?_eq_some_iff.1 hj).1
    simp only [hi, hj, Bool.or_eq_true, beq_iff_eq, Bool.not_eq_true', beq_eq_false_iff_ne] at this
    rcases this with h | h | h
    · exact absurd h hne
    · exact .inl h
    · exact .inr h
  · have := h2 i (List.getElem?_eq_some_iff.1 hi).1
    simp only [hi, Array.all_eq_true_iff_forall_mem, decide_eq_true_eq] at this
    exact this e he
  · have := h4 j hj
    simp only [List.any_eq_true, List.mem_range, Bool.and_eq_true, decide_eq_true_eq] at this
    obtain ⟨k, h6, h7, h8⟩ := this
    exact ⟨k, h7, by omega, h8⟩
  · have := h5 i h'
    simp only [Bool.or_eq_true, decide_eq_true_eq] at this
    rcases this with h9 | h9
    · omega
    · exact h9
/-- Once the first k are done and no other one: the rest in the order of the text. -/
theorem tail_any {l : List Oper} {m : Nat} {Q : Exit → Act → World → Prop} (hlt : ∀ (i : Nat) o, l[i]? = some o → ∀ e ∈ o.after, e.on < i) (hchain : ∀ i, m < i → i < l.length → edgeB l i (i - 1) = true) :
    ∀ (fuel k : Nat) (listed : Array Bool) (a : Act) (w : World), m ≤ k → l.length - k ≤ fuel → listed.size = l.length → (∀ j, j < k → j < l.length → listed.getD j false = true) → (∀ j, k ≤ j → listed.getD j false = false) →
      wpList Tryz.prog l.toArray Q (l.drop k) a w → wpAny Tryz.prog .any l.toArray Q fuel listed a w := by
  intro fuel
  induction fuel with
  | zero =>
    intro k listed a w hm hf hsz h1 h2 hx
    have hall : ∀ i, i < l.length → listed.getD i false = true := fun i hi => h1 i (by omega) hi
    rw [List.drop_of_length_le (by omega)] at hx
    exact ⟨ready_nil hall, hx⟩
  | succ fuel ih =>
    intro k listed a w hm hf hsz h1 h2 hx
    rcases Nat.lt_or_ge k l.length with hk | hk
    · refine ⟨fun hr => ?_, fun i hi => ?_⟩
      · exfalso
        have hj : k ∈ Region.ready .any l.toArray listed := by
          rw [mem_ready]
          have hkf := h2 k (Nat.le_refl _)
          have hks : k < listed.size := by omega
          refine ⟨by simpa [hks] using hkf, l[k], by simp [hk], fun e he _ => ?_⟩
          have := hlt k _ (List.getElem?_eq_getElem hk) e he
          exact h1 _ this (by omega)
        rw [hr] at hj; cases hj
      · rw [mem_ready] at hi
        obtain ⟨hun, o, ho, hdep⟩ := hi
        have ho' : l[i]? = some o := by simpa using ho
        have hil : i < l.length := (List.getElem?_eq_some_iff.1 ho').1
        have hif : listed.getD i false = false := by
          have : i < listed.size := by omega
          simpa [this] using hun
        have hik : i = k := by
          rcases Nat.lt_or_ge i k with h | h
          · rw [h1 i h hil] at hif; cases hif
          · rcases Nat.eq_or_lt_of_le h with h | h
            · exact h.symm
            · exfalso
              obtain ⟨o2, ho2, e, he, h6, h7⟩ := edgeB_spec (hchain i (by omega) hil)
              rw [ho'] at ho2; cases ho2
              have := hdep e he h7
              rw [h6, h2 (i - 1) (by omega)] at this
              cases this
        subst hik
        have hset : ∀ j, j ≠ i → (listed.setIfInBounds i true).getD j false = listed.getD j false := fun j hj => getD_set_ne false (Ne.symm hj)
        have hseti : (listed.setIfInBounds i true).getD i false = true := by
          have : i < listed.size := by omega
          simp [this]
        rw [List.drop_eq_getElem_cons hil] at hx
        have hoi : l[i] = o := by have := ho'; rw [List.getElem?_eq_getElem hil] at this; cases this; rfl
        rw [hoi] at hx
        have hnext : ∀ a' w', wpList Tryz.prog l.toArray Q (l.drop (i + 1)) a' w' → wpAny Tryz.prog .any l.toArray Q fuel (listed.setIfInBounds i true) a' w' := fun a' w' h =>
          ih (i + 1) _ a' w' (by omega) (by omega) (by simpa using hsz) (fun j hj hjl => by
            by_cases hji : j = i
            · subst hji; exact hseti
            · rw [hset j hji]; exact h1 j (by omega) hjl) (fun j hj => by rw [hset j (by omega)]; exact h2 j (by omega)) h
        unfold wpOp
        simp only [List.getElem?_toArray, ho']
        unfold wpList at hx
        split
        · rename_i hw
          simp only [hw, if_true] at hx
          exact hx.imp (Oper.wp_mono fun a' w' h => hnext a' w' h) id
        · rename_i hw
          simp only [hw] at hx
          exact hnext _ _ hx
    · have hall : ∀ i, i < l.length → listed.getD i false = true := fun i hi => h1 i (by omega) hi
      rw [List.drop_of_length_le (by omega)] at hx
      exact wpAny_end hall hx _
theorem countGe (m n : Nat) : ((List.range n).filter fun j => decide (m ≤ j)).length = n - m := by
  induction n with
  | zero => simp
  | succ n ih =>
    rw [List.range_succ, List.filter_append, List.length_append, ih]
    by_cases h : m ≤ n
    · simp [h]; omega
    · simp [h]; omega
theorem rely_tail {l : List Oper} {φ : List (Value → World → Prop)} {W : World} {a0 : Act} {Q : Exit → Act → World → Prop} (hB : tailB l φ.length = true) (hD : dstB (l.take φ.length) a0.tmps.size = true)
    (hmono : ∀ f ∈ φ, ∀ v w w', f v w → Below w.heap.size w w' → f v w') (hstep : DutiesT l φ W a0 Q l φ)
    (hend : ∀ vs w, Below W.heap.size W w → owed vs w φ 0 → wpList Tryz.prog l.toArray Q (l.drop φ.length) (puts vs (l.take φ.length) 0 a0) w) :
    ∀ (fuel : Nat) (listed : Array Bool) (a : Act) (w : World), ((List.range l.length).filter fun j => !listed.getD j false).length ≤ fuel → listed.size = l.length →
      (∀ j, φ.length ≤ j → listed.getD j false = false) → (∀ (i : Nat) o, l[i]? = some o → listed.getD i false = true → ∀ e ∈ o.after, Region.binds .any e = true → listed.getD e.on false = true) → RI l φ W a0 listed a w → wpAny Tryz.prog .any l.toArray Q fuel listed a w := by
  obtain ⟨hne, hlt, hm1, htail, hchain⟩ := tailB_spec hB
  have fin : ∀ (listed : Array Bool) (a : Act) (w : World), (∀ i, i < φ.length → listed.getD i false = true) → RI l φ W a0 listed a w → wpList Tryz.prog l.toArray Q (l.drop φ.length) a w := by
    intro listed a w hall hI
    obtain ⟨hb, hd, hs, hout, hf⟩ := hI
    have hv : ∀ (i : Nat) o f, l[i]? = some o → φ[i]? = some f → f (slot a o) w := fun i o f h1 h2 => hf i o f h1 h2 (hall i (List.getElem?_eq_some_iff.1 h2).1)
    have e := puts_eq (fun i => match l[i]? with | some o => slot a o | none => undef) a (l.take φ.length) 0 a0 hd hs hout (fun i o d h1 h2 => by
      have h1' : l[i]? = some o := by rw [List.getElem?_take] at h1; split at h1; exact h1; cases h1
      simp [h1', slot, h2])
    rw [e]
    refine hend _ w hb (owed_of φ 0 fun i f hi => ?_)
    have hi' : i < l.length := by have := (List.getElem?_eq_some_iff.1 hi).1; omega
    simp only [Nat.zero_add, List.getElem?_eq_getElem hi']
    exact hv i _ f (List.getElem?_eq_getElem hi') hi
  intro fuel
  induction fuel with
  | zero =>
    intro listed a w hc hsz ht hdn hI
    exfalso
    have : φ.length ∈ (List.range l.length).filter fun j => !listed.getD j false := by
      rw [List.mem_filter, ht _ (Nat.le_refl _)]; simp [hm1]
    have := List.length_pos_of_mem this
    omega
  | succ fuel ih =>
    intro listed a w hc hsz ht hdn hI
    refine ⟨fun hr => absurd ((ht _ (Nat.le_refl _)).symm.trans (allListed hlt hsz hr _ hm1)) (by decide), fun i hi => ?_⟩
    rw [mem_ready] at hi
    obtain ⟨hun, o, ho, hdep⟩ := hi
    have ho' : l[i]? = some o := by simpa using ho
    have hil : i < l.length := (List.getElem?_eq_some_iff.1 ho').1
    have hif : listed.getD i false = false := by
      have : i < listed.size := by omega
      simpa [this] using hun
    have hset : ∀ j, j ≠ i → (listed.setIfInBounds i true).getD j false = listed.getD j false := fun j hj => getD_set_ne false (Ne.symm hj)
    have hseti : (listed.setIfInBounds i true).getD i false = true := by
      have : i < listed.size := by omega
      simp [this]
    rcases Nat.lt_or_ge i φ.length with him | him
    · -- a duty
      have hfi : φ[i]? = some φ[i] := List.getElem?_eq_getElem him
      have hcnt : ((List.range l.length).filter fun j => !(listed.setIfInBounds i true).getD j false).length ≤ fuel := by
        have := filter_lt (fun j => !listed.getD j false) (fun j => !(listed.setIfInBounds i true).getD j false) i (by simp only [hif]; rfl) (by simp only [hseti]; rfl) (fun j hj => by
          by_cases hji : j = i
          · subst hji; simp only [hif]; rfl
          · simp only [hset j hji] at hj; exact hj) (List.range l.length) (by simpa using hil)
        omega
      have htl : ∀ j, φ.length ≤ j → (listed.setIfInBounds i true).getD j false = false := fun j h => by rw [hset _ (by omega)]; exact ht j h
      have hdn' : ∀ (j : Nat) oj, l[j]? = some oj → (listed.setIfInBounds i true).getD j false = true → ∀ e ∈ oj.after, Region.binds .any e = true → (listed.setIfInBounds i true).getD e.on false = true := fun j oj hj hl e he hbd => by
        by_cases hei : e.on = i
        · rw [hei]; exact hseti
        · rw [hset _ hei]
          by_cases hji : j = i
          · subst hji; rw [ho'] at hj; cases hj; exact hdep e he hbd
          · rw [hset j hji] at hl; exact hdn j oj hj hl e he hbd
      obtain ⟨hb, hd, hs, hout, hf⟩ := hI
      have hdeps : depsOf l φ a w o.after.toList := depsOf_of _ fun e he hbd => by
        unfold dep1
        split
        · rename_i oj f h1 h2
          exact hf e.on oj f h1 h2 (hdep e (by simpa using he) hbd)
        · trivial
      obtain ⟨hw1, hw2⟩ := duties_getT hstep i o φ[i] ho' hfi a w hb (fun t h => hout t h) hdeps
      have hnew : ∀ v w', φ[i] v w' → Below w.heap.size w w' → RI l φ W a0 (listed.setIfInBounds i true) (a.put o.dst v) w' := fun v w' hφ hg => by
        refine ⟨hb.trans (hg.mono hb.size), by rw [defers_put]; exact hd, by rw [size_put]; exact hs, fun t h => ?_, fun j oj f h1 h2 h3 => ?_⟩
        · rw [Act.eval_put (x := .tmp t) (fun d hd' he => by
            cases he
            simp only [outB, List.all_eq_true] at h
            have hmem : o ∈ l.take φ.length := by
              rw [List.mem_iff_getElem?]; exact ⟨i, by rw [List.getElem?_take, if_pos him]; exact ho'⟩
            have := h o hmem
            simp [hd'] at this)]
          exact hout t h
        · by_cases hji : j = i
          · subst hji
            rw [ho'] at h1; cases h1
            rw [hfi] at h2; cases h2
            have hmem : o ∈ l.take φ.length := by
              rw [List.mem_iff_getElem?]; exact ⟨j, by rw [List.getElem?_take, if_pos him]; exact ho'⟩
            simp only [dstB, List.all_eq_true] at hD
            have hd1 := hD o hmem
            unfold slot
            cases hdo : o.dst with
            | none => simp [hdo] at hd1
            | some d =>
              have hd2 : d < a0.tmps.size := by simpa [hdo] using hd1
              have e : (a.put (some d) v).eval (.tmp d) = v := by
                have : d < a.tmps.size := by rw [hs]; exact hd2
                simp [eval_tmp, Act.put, this]
              simp only [e]
              exact hφ
          · rw [slot_put_ne v (hne j i oj o h1 ho' hji)]
            exact hmono f (List.mem_of_getElem? h2) _ _ _ (hf j oj f h1 h2 (by rw [← hset j hji]; exact h3)) hg
      unfold wpOp
      simp only [List.getElem?_toArray, ho']
      split
      · rename_i hw
        refine .inl (Oper.wp_mono (fun a' w' h => ?_) (hw1 hw))
        obtain ⟨v, rfl, hφ, hg⟩ := h
        exact ih _ _ _ hcnt (by simpa using hsz) htl hdn' (hnew v w' hφ hg)
      · rename_i hw
        exact ih _ _ _ hcnt (by simpa using hsz) htl hdn' (hnew undef w (hw2 (by simpa using hw)) (Below.refl _ _))
    · -- the tail
      have hil' : i = φ.length := by
        rcases Nat.eq_or_lt_of_le him with h | h
        · exact h.symm
        · exfalso
          obtain ⟨o2, ho2, e, he, h6, h7⟩ := edgeB_spec (hchain i (by omega) hil)
          rw [ho'] at ho2; cases ho2
          have := hdep e he h7
          rw [h6, ht (i - 1) (by omega)] at this
          cases this
      have hallN : ∀ n j, φ.length - j = n → j < φ.length → listed.getD j false = true := by
        intro n
        induction n using Nat.strongRecOn with
        | _ n ih2 =>
          intro j hn hj
          obtain ⟨k, hk1, hk2, hke⟩ := htail j hj
          obtain ⟨o2, ho2, e, he, h6, h7⟩ := edgeB_spec hke
          rcases Nat.eq_or_lt_of_le hk2 with h | h
          · rw [h, ← hil', ho'] at ho2; cases ho2
            rw [← h6]; exact hdep e he h7
          · rw [← h6]; exact hdn k o2 ho2 (ih2 (φ.length - k) (by omega) k rfl h) e he h7
      have hall : ∀ j, j < φ.length → listed.getD j false = true := fun j hj => hallN _ j rfl hj
      have hx := fin listed a w hall hI
      have hcl : l.length - φ.length ≤ fuel + 1 := by
        have h9 : ((List.range l.length).filter fun j => decide (φ.length ≤ j)).length ≤ ((List.range l.length).filter fun j => !listed.getD j false).length := by
          rw [← List.countP_eq_length_filter, ← List.countP_eq_length_filter]
          refine List.countP_mono_left fun j _ h => ?_
          rw [decide_eq_true_eq] at h
          rw [ht j h]; rfl
        have h10 : ((List.range l.length).filter fun j => decide (φ.length ≤ j)).length = l.length - φ.length := countGe _ _
        omega
      have hz := tail_any (Q := Q) hlt hchain (fuel + 1) φ.length listed a w (Nat.le_refl _) hcl hsz (fun j hj _ => hall j hj) ht hx
      exact hz.2 i (by rw [mem_ready]; exact ⟨hun, o, ho, hdep⟩)
theorem wp_reliesT {l : List Oper} {id : Nat} {W : World} {a0 : Act} {Q : Exit → Act → World → Prop} (φ : List (Value → World → Prop)) (hB : tailB l φ.length = true) (hD : dstB (l.take φ.length) a0.tmps.size = true)
    (hmono : ∀ f ∈ φ, ∀ v w w', f v w → Below w.heap.size w w' → f v w') (hstep : DutiesRT l φ W a0 l φ)
    (hend : ∀ vs w, Below W.heap.size W w → owed vs w φ 0 → wpList Tryz.prog l.toArray Q (asg vs (l.take φ.length) 0 ++ l.drop φ.length) a0 w) : (Code.region id l.toArray true).wp Tryz.prog Q a0 W := by
  refine wp_region_any (by kernel_rfl) (rely_tail hB hD hmono (duties_ofT l φ hstep) (fun vs w h1 h2 => wpList_asg vs _ _ _ (hend vs w h1 h2)) _ _ _ _ ?_ (by simp) (fun j _ => by rw [Array.getD_eq_getD_getElem?, Array.getElem?_replicate]; split <;> rfl) (fun i o _ h => by
    exfalso
    rw [Array.getD_eq_getD_getElem?, Array.getElem?_replicate] at h
    split at h <;> simp at h) ⟨(Below.refl _ _).drew, rfl, rfl, fun _ _ => rfl, fun i o f _ _ h => by
    exfalso
    rw [Array.getD_eq_getD_getElem?, Array.getElem?_replicate] at h
    split at h <;> simp at h⟩)
  have := List.length_filter_le (fun j => !(Array.replicate l.toArray.size false).getD j false) (List.range l.length)
  simpa using this
end Go.Proofs.YtddmmmfpdmejbaaGreatDoor
namespace Go.Proofs.YtddmmmfpdmejbaaGreatDoor
open Go.RowKit

/-- A row that holds a sector. -/
def Row (w : World) (g : Nat) (s : Nat → UInt8) : Prop := rowOk w g = true ∧ rowAt w g = secA s
theorem Row.kept {w w1 : World} {g : Nat} {s : Nat → UInt8} (h : Row w g s) (hb : Below w.heap.size w w1) : Row w1 g s := keepRow hb (lt_of_rowOk h.1) h.1 h.2
theorem Row.new (w : World) (s : Nat → UInt8) (t : TypeId) : Row (w.alloc (.cells (secA s) t)) w.heap.size s := ⟨rowOk_new _ _ _ _ rfl (secA_size _), rowAt_new _ _ _ _ rfl⟩
theorem Row.lt {w : World} {g : Nat} {s : Nat → UInt8} (h : Row w g s) : g < w.heap.size := lt_of_rowOk h.1
theorem Row.cell {w : World} {g : Nat} {s : Nat → UInt8} (h : Row w g s) (i : Nat) (hi : i < 64) : w.cell? ⟨g, i, none⟩ = some (Value.int .u8 ((s i).toNat : Int)) := by
  rw [cell_rowAt h.1, h.2, secA_get s i hi]
/-! 'append([]byte{}, b...)' -/
/-! A slice of bytes of the call's own, and append of one byte -/
def OwnB (w : World) (base : Nat) (v : Value) (l : List UInt8) : Prop := w.ownsRow base 5 1 v l.length (bytesA l).toList
theorem OwnB.nil (w : World) (base : Nat) : OwnB w base (.slice none 0 0) [] := World.ownsRow_nil w base 5 1
theorem OwnB.keep {w w' : World} {base : Nat} {v : Value} {l : List UInt8} (h : OwnB w base v l) (hb : Below w.heap.size w w') : OwnB w' base v l :=
  World.ownsRow.kept h (row := none) ⟨hb.os, hb.tape, hb.output, hb.size, fun k hk _ => hb.block k hk⟩ (by
    rcases h.2 with ⟨rfl, _⟩ | ⟨g, cap, cur, rfl, _⟩
    · exact .inl rfl
    · exact .inr (by simp [Value.ownBlock]))
theorem IsB.set {w : World} {g o n c : Nat} {f : Nat → UInt8} (h : IsB w (.slice (some ⟨g, o, none⟩) n c) (subL f 0 n)) (j : Nat) (b : UInt8) (x : Int) (hj : j < n) (hx : x = (b.toNat : Int)) :
    IsB (w.setCell ⟨g, o + j, none⟩ (.int .u8 x)) (.slice (some ⟨g, o, none⟩) n c) (subL (upd f j b) 0 n) := by
  rcases h with ⟨h, _⟩ | ⟨y, d, he, hc⟩
  · cases h
  · simp only [Value.slice.injEq, Option.some.injEq] at he
    obtain ⟨rfl, _, rfl⟩ := he
    refine .inr ⟨⟨g, o, none⟩, c, by simp, fun i hi => ?_⟩
    have hin : i < n := by simpa using hi
    have h1 := hc i (by simpa using hin)
    rw [addr_add] at h1 ⊢
    rw [subL_get, Nat.zero_add] at h1 ⊢
    by_cases hij : i = j
    · subst hij
      rw [World.cell?_setCell_same (h := h1)]
      simp [upd, hx]
    · have hne : (⟨g, o + j, none⟩ : Addr) ≠ ⟨g, o + i, none⟩ := fun e => hij (by injection e; omega)
      rw [World.cell?_setCell_other (h := hne), h1]
      simp [upd, hij]
/-! append(nil, b...) -/
theorem OwnB.form {w : World} {base : Nat} {v : Value} {l : List UInt8} (h : OwnB w base v l) (h0 : l ≠ []) : ∃ g c, v = .slice (some ⟨g, 0, none⟩) l.length c ∧ base ≤ g ∧ l.length ≤ c ∧ c ≤ maxLen := by
  obtain ⟨_, ⟨rfl, hn⟩ | ⟨g, cap, cur, rfl, hb, hg, hle, hm, hs, ht⟩⟩ := h
  · exact absurd (List.eq_nil_of_length_eq_zero hn) h0
  · exact ⟨g, cap, rfl, hb, hle, hm⟩
/-- A part of a slice of bytes. -/
theorem IsB.part {w : World} {x : Option Addr} {c : Nat} {l : List UInt8} (h : IsB w (.slice x l.length c) l) (f n : Nat) (hn : f + n ≤ l.length) (hc : l.length ≤ c) :
    ∃ y d, sliced x f (f + n) c 1 = .slice y n d ∧ n ≤ d ∧ d ≤ c ∧ IsB w (.slice y n d) ((l.drop f).take n) := by
  have e0 : f + n - f = n := by omega
  unfold sliced
  rw [e0]
  refine ⟨_, _, rfl, by omega, by omega, ?_⟩
  have hln : ((l.drop f).take n).length = n := by simp; omega
  rcases h with ⟨h, rfl⟩ | ⟨y, d, he, hcell⟩
  · simp only [Value.slice.injEq] at h
    obtain ⟨rfl, _, rfl⟩ := h
    simp at hn
    obtain ⟨rfl, rfl⟩ := hn
    exact .inl ⟨rfl, rfl⟩
  · simp only [Value.slice.injEq, true_and] at he
    obtain ⟨rfl, rfl⟩ := he
    have hcell' : ∀ i, i < n → w.cell? (y.add (f + i)) = some (Value.int .u8 ((l[f + i]?.getD 0).toNat : Int)) := fun i hi => by
      have h9 : f + i < l.length := by omega
      rw [hcell _ h9]; simp [h9]
    have hget : ∀ i (h : i < ((l.drop f).take n).length), ((l.drop f).take n)[i] = l[f + i]?.getD 0 := fun i hi => by
      have h9 : f + i < l.length := by omega
      simp [h9]
    by_cases hcf : c = f
    · have hn0 : n = 0 := by omega
      rw [if_pos hcf]
      exact .inr ⟨y, c - f, by rw [hln], fun i hi => by omega⟩
    · rw [if_neg hcf, Option.map_some, Nat.mul_one]
      refine .inr ⟨y.add f, c - f, by rw [hln], fun i hi => ?_⟩
      rw [hget i hi, ← hcell' i (by omega)]
      by_cases hf0 : n = 0
      · omega
      · have hsp : (y.add f).spot = none := World.cell?_spot (by have := hcell' 0 (by omega); rw [Nat.add_zero] at this; exact this)
        have hsp0 : y.spot = none := by
          by_cases hf : f = 0
          · subst hf; simpa [Addr.add] using hsp
          · exact World.cell?_spot (a := y) (by have := hcell 0 (by omega); simpa [Addr.add] using this)
        obtain ⟨b, o, s⟩ := y
        simp only at hsp0; subst hsp0
        rw [addr_add, addr_add, addr_add, Nat.add_assoc]
theorem IsB.cut {w : World} {x : Option Addr} {c : Nat} {l : List UInt8} (h : IsB w (.slice x l.length c) l) (f n : Nat) (hn : f + n ≤ l.length) (hc : l.length ≤ c) :
    IsB w (.slice (if c = f then x else x.map (fun a => a.add f)) n (c - f)) ((l.drop f).take n) := by
  obtain ⟨y, d, e, -, -, h2⟩ := h.part f n hn hc
  unfold sliced at e
  rw [Nat.mul_one, show f + n - f = n by omega] at e
  rw [e]; exact h2
/-- A slice of ints. -/
def IsI (w : World) (v : Value) (zs : List Int) : Prop := ∃ x c, v = .slice x zs.length c ∧ ∀ i (_ : i < zs.length), ∃ b o, x = some ⟨b, o, none⟩ ∧ b < w.heap.size ∧ w.cell? ⟨b, o + i, none⟩ = some (.int .i64 (zs[i]?.getD 0))
theorem IsI.kept {w w1 : World} {v : Value} {zs : List Int} (h : IsI w v zs) (hb : Below w.heap.size w w1) : IsI w1 v zs := by
  obtain ⟨x, c, rfl, hc⟩ := h
  refine ⟨x, c, rfl, fun i hi => ?_⟩
  obtain ⟨b, o, rfl, h1, h2⟩ := hc i hi
  exact ⟨b, o, rfl, Nat.lt_of_lt_of_le h1 hb.size, by rw [hb.cell h1]; exact h2⟩
/-! append(v, b...) to a slice of the call's own -/
end Go.Proofs.YtddmmmfpdmejbaaGreatDoor
namespace Go.Proofs.YtddmmmfpdmejbaaGreatDoor
open Go.RowKit

/-! Print's and Field's mathematics -/
def frmN : Nd → Bool
  | .mk k n _ ks vs => decide (1 ≤ k ∧ k ≤ 6) && !decide (k = 3 ∧ n < 0) && !decide (k = 6 ∧ ks.length ≠ vs.length) && (vs.map fun d => frmN d).all id
def frmL : List Nd → Bool
  | [] => true
  | d :: r => frmN d && frmL r
theorem frmL_mpp : ∀ l : List Nd, (l.map fun d => frmN d).all id = frmL l
  | [] => rfl
  | d :: r => by rw [List.map_cons, List.all_cons, frmL_mpp r, frmL]; rfl
theorem frmN_mk (k n : Int) (s : List UInt8) (ks : List (List UInt8)) (vs : List Nd) : frmN (.mk k n s ks vs) = (decide (1 ≤ k ∧ k ≤ 6) && !decide (k = 3 ∧ n < 0) && !decide (k = 6 ∧ ks.length ≠ vs.length) && frmL vs) := by rw [frmN, frmL_mpp]
def plnN : Nd → Bool
  | .mk _ _ s ks vs => decide (quE s = 0) && ks.all (fun t => decide (quE t = 0)) && (vs.map fun d => plnN d).all id
def plnL : List Nd → Bool
  | [] => true
  | d :: r => plnN d && plnL r
theorem plnL_mpp : ∀ l : List Nd, (l.map fun d => plnN d).all id = plnL l
  | [] => rfl
  | d :: r => by rw [List.map_cons, List.all_cons, plnL_mpp r, plnL]; rfl
theorem plnN_mk (k n : Int) (s : List UInt8) (ks : List (List UInt8)) (vs : List Nd) : plnN (.mk k n s ks vs) = (decide (quE s = 0) && ks.all (fun t => decide (quE t = 0)) && plnL vs) := by rw [plnN, plnL_mpp]
def dupK : List (List UInt8) → Bool
  | [] => false
  | a :: r => r.contains a || dupK r
def twcN : Nd → Bool
  | .mk _ _ _ ks vs => dupK ks || (vs.map fun d => twcN d).any id
def twcL : List Nd → Bool
  | [] => false
  | d :: r => twcN d || twcL r
theorem twcL_mpp : ∀ l : List Nd, (l.map fun d => twcN d).any id = twcL l
  | [] => rfl
  | d :: r => by rw [List.map_cons, List.any_cons, twcL_mpp r, twcL]; rfl
theorem twcN_mk (k n : Int) (s : List UInt8) (ks : List (List UInt8)) (vs : List Nd) : twcN (.mk k n s ks vs) = (dupK ks || twcL vs) := by rw [twcN, twcL_mpp]
def depN : Nd → Nat
  | .mk k _ _ _ vs => if k = 5 ∨ k = 6 then (vs.map fun d => depN d).foldr max 0 + 1 else 0
def depL : List Nd → Nat
  | [] => 0
  | d :: r => max (depN d) (depL r)
theorem depL_mpp : ∀ l : List Nd, (l.map fun d => depN d).foldr max 0 = depL l
  | [] => rfl
  | d :: r => by rw [List.map_cons, List.foldr_cons, depL_mpp r, depL]
theorem depN_mk (k n : Int) (s : List UInt8) (ks : List (List UInt8)) (vs : List Nd) : depN (.mk k n s ks vs) = if k = 5 ∨ k = 6 then depL vs + 1 else 0 := by rw [depN, depL_mpp]
def digF : Nat → Nat → List UInt8
  | 0, _ => []
  | f + 1, n => if n < 10 then [u8 (48 + n)] else digF f (n / 10) ++ [u8 (48 + n % 10)]
def digN (n : Int) : List UInt8 := digF 20 n.toNat
def jnL : List (List UInt8) → Bool → List UInt8
  | [], _ => []
  | t :: r, b => (bif b then [] else [44]) ++ t ++ jnL r false
def jnO : List (List UInt8) → List (List UInt8) → Bool → List UInt8
  | ks, t :: r, b => (bif b then [] else [44]) ++ (quS (ks.headD [])) ++ [58] ++ t ++ jnO ks.tail r false
  | _, [], _ => []
def txtN : Nd → List UInt8
  | .mk k n s ks vs =>
    if k = 1 then [110, 117, 108, 108]
    else if k = 2 then (if n = 1 then [116, 114, 117, 101] else [102, 97, 108, 115, 101])
    else if k = 3 then digN n
    else if k = 4 then quS s
    else if k = 6 then 123 :: (jnO ks (vs.map fun d => txtN d) true ++ [125])
    else 91 :: (jnL (vs.map fun d => txtN d) true ++ [93])
def txtL : List Nd → Bool → List UInt8
  | [], _ => []
  | d :: r, b => (bif b then [] else [44]) ++ txtN d ++ txtL r false
def txtO : List (List UInt8) → List Nd → Bool → List UInt8
  | ks, d :: r, b => (bif b then [] else [44]) ++ (quS (ks.headD [])) ++ [58] ++ txtN d ++ txtO ks.tail r false
  | _, [], _ => []
theorem txtL_mpp : ∀ (l : List Nd) (b : Bool), jnL (l.map fun d => txtN d) b = txtL l b
  | [], _ => rfl
  | d :: r, b => by rw [List.map_cons, jnL, txtL_mpp r false, txtL]
theorem txtO_mpp : ∀ (l : List Nd) (ks : List (List UInt8)) (b : Bool), jnO ks (l.map fun d => txtN d) b = txtO ks l b
  | [], ks, b => by rw [List.map_nil, jnO, txtO]
  | d :: r, ks, b => by rw [List.map_cons, jnO, txtO_mpp r ks.tail false, txtO]
theorem txtN_mk (k n : Int) (s : List UInt8) (ks : List (List UInt8)) (vs : List Nd) : txtN (.mk k n s ks vs) =
    if k = 1 then [110, 117, 108, 108]
    else if k = 2 then (if n = 1 then [116, 114, 117, 101] else [102, 97, 108, 115, 101])
    else if k = 3 then digN n
    else if k = 4 then quS s
    else if k = 6 then 123 :: (txtO ks vs true ++ [125])
    else 91 :: (txtL vs true ++ [93]) := by rw [txtN, txtL_mpp, txtO_mpp]
def prtE (d : Nd) : Int := if frmN d = false then 11 else if plnN d = false then 30 else if twcN d = true then 33 else if 6 < depN d then 32 else 0
def prtS (d : Nd) : List UInt8 := if prtE d = 0 then txtN d else []
def fldK (key : List UInt8) : List (List UInt8) → List Nd → Option Nd
  | k :: ks, v :: vs => if k = key then some v else fldK key ks vs
  | _, _ => none
def fldN : Nd → List UInt8 → Option Nd
  | .mk k _ _ ks vs, key => if k = 6 then fldK key ks vs else none
def szN : Nd → Nat
  | .mk _ _ s ks vs => s.length + (ks.map (fun t => t.length + 16)).sum + (vs.map fun d => szN d).sum + 80
def szL : List Nd → Nat
  | [] => 0
  | d :: r => szN d + szL r
theorem szL_mpp : ∀ l : List Nd, (l.map fun d => szN d).sum = szL l
  | [] => rfl
  | d :: r => by rw [List.map_cons, List.sum_cons, szL_mpp r, szL]
theorem szN_mk (k n : Int) (s : List UInt8) (ks : List (List UInt8)) (vs : List Nd) : szN (.mk k n s ks vs) = s.length + (ks.map (fun t => t.length + 16)).sum + szL vs + 80 := by rw [szN, szL_mpp]
end Go.Proofs.YtddmmmfpdmejbaaGreatDoor
