import Derived.WalkKit
import Derived.Laws.BitsAllLaws
import Derived.Test.YtalnbddkhojjbaaGreatDoorRows
import Derived.WalkSpells
import Derived.WalkLawsBesides
import Derived.Deep.WholeRow
import Derived.Laws.CopyRow
import Derived.Stop.BytesEq
import Derived.Deep.MidRow
import Derived.Laws.IdiomStrings
import Derived.BigQuiet
import Derived.Orders
import Derived.ProofKit
import Derived.OpenShut
import Derived.ChangeOld
import Derived.Below
namespace Go.Proofs.YtalnbddkhojjbaaGreatDoor
open Go.RowKit


def upd (s : Nat → UInt8) (i : Nat) (b : UInt8) : Nat → UInt8 := fun j => if j = i then b else s j

end Go.Proofs.YtalnbddkhojjbaaGreatDoor
namespace Go.Proofs.YtalnbddkhojjbaaGreatDoor
open Go.RowKit

def lB (l : List UInt8) (k : Nat) : UInt8 := l[k]?.getD 0
end Go.Proofs.YtalnbddkhojjbaaGreatDoor
namespace Go.Proofs.YtalnbddkhojjbaaGreatDoor
open Go.RowKit

def isC (b : UInt8) : Bool := decide (128 ≤ b.toNat ∧ b.toNat ≤ 191)
def cvR (l : List UInt8) (v0 : Nat) : Nat → Option Nat
  | 0 => some v0
  | k + 1 => match cvR l v0 k with
    | none => none
    | some v => if isC (lB l (k + 1)) = true then some (64 * v + (lB l (k + 1)).toNat - 128) else none
def leastR (n : Nat) : Nat := if n = 2 then 128 else if n = 3 then 2048 else 65536
def okR (n v : Nat) : Bool := decide (leastR n ≤ v ∧ v ≤ 1114111 ∧ ¬ (55296 ≤ v ∧ v ≤ 57343))
def rnN (l : List UInt8) (n v0 : Nat) : Nat × Nat := if l.length < n then (0, 0) else
  match cvR l v0 (n - 1) with
  | none => (0, 0)
  | some v => if okR n v = true then (v, n) else (0, 0)
def rn (l : List UInt8) : Nat × Nat :=
  if l.length = 0 then (0, 0) else
  if (lB l 0).toNat < 128 then ((lB l 0).toNat, 1) else
  if 192 ≤ (lB l 0).toNat ∧ (lB l 0).toNat < 224 then rnN l 2 ((lB l 0).toNat - 192) else
  if 224 ≤ (lB l 0).toNat ∧ (lB l 0).toNat < 240 then rnN l 3 ((lB l 0).toNat - 224) else
  if 240 ≤ (lB l 0).toNat ∧ (lB l 0).toNat < 248 then rnN l 4 ((lB l 0).toNat - 240) else (0, 0)
def u8 (n : Nat) : UInt8 := UInt8.ofNat n
def enc (v : Nat) : List UInt8 :=
  if v < 128 then [u8 v] else
  if v < 2048 then [u8 (192 + v / 64), u8 (128 + v % 64)] else
  if v < 65536 then [u8 (224 + v / 4096), u8 (128 + v / 64 % 64), u8 (128 + v % 64)] else
  [u8 (240 + v / 262144), u8 (128 + v / 4096 % 64), u8 (128 + v / 64 % 64), u8 (128 + v % 64)]
def hexV (b : UInt8) : Int :=
  if 48 ≤ b.toNat ∧ b.toNat ≤ 57 then (b.toNat : Int) - 48 else
  if 97 ≤ b.toNat ∧ b.toNat ≤ 102 then (b.toNat : Int) - 97 + 10 else
  if 65 ≤ b.toNat ∧ b.toNat ≤ 70 then (b.toNat : Int) - 65 + 10 else -1
theorem hexV_range (b : UInt8) : -1 ≤ hexV b ∧ hexV b ≤ 15 := by
  unfold hexV
  split
  · omega
  · split
    · omega
    · split <;> omega
def hx (l : List UInt8) : Nat → Option Nat
  | 0 => some 0
  | k + 1 => match hx l k with
    | none => none
    | some v => if hexV (lB l (2 + k)) < 0 then none else some (16 * v + (hexV (lB l (2 + k))).toNat)
def escSigns : List UInt8 := [34, 92, 47, 98, 102, 110, 114, 116]
def escMeans : List UInt8 := [34, 92, 47, 8, 12, 10, 13, 9]
def escAt (b : UInt8) : Nat → Nat → Option Nat
  | 0, _ => none
  | k + 1, i => if b = lB escSigns i then some i else escAt b k (i + 1)
def escU (l : List UInt8) : List UInt8 × Nat :=
  if l.length < 6 ∨ lB l 1 ≠ 117 then ([], 0) else
  match hx l 4 with
  | none => ([], 0)
  | some v => if 55296 ≤ v ∧ v ≤ 57343 then ([], 0) else (enc v, 6)
def escS (l : List UInt8) : List UInt8 × Nat :=
  if 1 < l.length then
    match escAt (lB l 1) 8 0 with
    | some i => ([lB escMeans i], 2)
    | none => escU l
  else escU l
def piece (l : List UInt8) : List UInt8 × Nat :=
  if lB l 0 = 92 then escS l else if (rn l).1 < 32 then (l.take (rn l).2, 0) else (l.take (rn l).2, (rn l).2)
def txt (l : List UInt8) : Nat → Nat → List UInt8 → List UInt8 × Nat
  | 0, _, _ => ([], 0)
  | f + 1, k, out => if k < l.length then
      (if lB l k = 34 then (out, k + 1) else if (piece (l.drop k)).2 = 0 then ([], 0) else txt l f (k + (piece (l.drop k)).2) (out ++ (piece (l.drop k)).1))
    else ([], 0)
def inW (b : UInt8) : Bool := decide (97 ≤ b.toNat ∧ b.toNat ≤ 122) || decide (65 ≤ b.toNat ∧ b.toNat ≤ 90) || decide (48 ≤ b.toNat ∧ b.toNat ≤ 57) || decide (b.toNat = 95) || decide (b.toNat = 43) || decide (b.toNat = 45) || decide (b.toNat = 46)
def wl : List UInt8 → Nat
  | [] => 0
  | b :: l => if inW b = true then wl l + 1 else 0
def nmV (l : List UInt8) : Nat → Option Nat
  | 0 => some 0
  | k + 1 => match nmV l k with
    | none => none
    | some v => if (lB l k).toNat < 48 ∨ 57 < (lB l k).toNat then none else some (10 * v + (lB l k).toNat - 48)
def numW (l : List UInt8) : Int :=
  if l.length = 0 ∨ 19 < l.length ∨ (1 < l.length ∧ lB l 0 = 48) then -1 else
  match nmV l l.length with
  | none => -1
  | some v => if 9223372036854775807 < v then -1 else (v : Int)
structure Tk where
  kind : Int
  at_ : Int
  n : Int
  text : List UInt8
def tkZ : Tk := ⟨0, 0, 0, []⟩
def sgns : List UInt8 := [123, 125, 91, 93, 58, 44]
def sgnAt (b : UInt8) : Nat → Nat → Option Nat
  | 0, _ => none
  | k + 1, i => if b = lB sgns i then some i else sgnAt b k (i + 1)
def wdNull : List UInt8 := [110, 117, 108, 108]
def wdTrue : List UInt8 := [116, 114, 117, 101]
def wdFalse : List UInt8 := [102, 97, 108, 115, 101]
def wordTk (w : List UInt8) (n : Nat) : Tk × Nat :=
  if w = wdNull then (⟨7, 0, 0, []⟩, n) else if w = wdTrue then (⟨8, 0, 0, []⟩, n) else if w = wdFalse then (⟨9, 0, 0, []⟩, n) else
  if numW w < 0 then (tkZ, 0) else (⟨10, 0, numW w, []⟩, n)
def oneTk (l : List UInt8) : Tk × Nat :=
  match sgnAt (lB l 0) 6 0 with
  | some i => (⟨(i : Int) + 1, 0, 0, []⟩, 1)
  | none => if lB l 0 = 34 then (⟨11, 0, 0, (txt l l.length 1 []).1⟩, (txt l l.length 1 []).2) else wordTk (l.take (wl l)) (wl l)
def blk (b : UInt8) : Bool := decide (b = 32 ∨ b = 9 ∨ b = 10 ∨ b = 13)
def cutF (l : List UInt8) : Nat → Nat → List Tk → Option (List Tk) × Nat
  | 0, k, _ => (none, k)
  | f + 1, k, out => if k < l.length then
      (if blk (lB l k) = true then cutF l f (k + 1) out
       else if (oneTk (l.drop k)).2 = 0 then (none, k)
       else cutF l f (k + (oneTk (l.drop k)).2) (out ++ [{ (oneTk (l.drop k)).1 with at_ := (k : Int) }]))
    else (some out, 0)
def cutA (l : List UInt8) : Option (List Tk) × Nat := cutF l (l.length + 1) 0 []
def cutL (l : List UInt8) : List Tk := if 4096 < l.length then [] else (cutA l).1.getD []
def cutE (l : List UInt8) : Int := if 4096 < l.length then 2 else if (cutA l).1.isNone then 30 else 0
def cutP (l : List UInt8) : Int := if 4096 < l.length then 0 else ((cutA l).2 : Int)
def qRunes : List Nat := [34, 92, 8, 12, 10, 13, 9]
def qSigns : List UInt8 := [34, 92, 98, 102, 110, 114, 116]
def qAt (v : Nat) : Nat → Nat → Option Nat
  | 0, _ => none
  | k + 1, i => if v = qRunes.getD i 0 then some i else qAt v k (i + 1)
def dgC (n : Nat) : UInt8 := if n < 10 then u8 (48 + n) else u8 (87 + n)
def quo (v : Nat) : List UInt8 :=
  match qAt v 7 0 with
  | some i => [92, lB qSigns i]
  | none => if v < 32 then [92, 117, 48, 48, dgC (v / 16), dgC (v % 16)] else enc v
def quF (l : List UInt8) : Nat → Nat → List UInt8 → Option (List UInt8)
  | 0, _, _ => none
  | f + 1, k, out => if k < l.length then
      (if (rn (l.drop k)).2 = 0 then none else quF l f (k + (rn (l.drop k)).2) (out ++ quo (rn (l.drop k)).1))
    else some (out ++ [34])
def quA (l : List UInt8) : Option (List UInt8) := quF l (l.length + 1) 0 [34]
def quS (l : List UInt8) : List UInt8 := (quA l).getD []
def quE (l : List UInt8) : Int := if (quA l).isNone then 30 else 0
end Go.Proofs.YtalnbddkhojjbaaGreatDoor
namespace Go.Proofs.YtalnbddkhojjbaaGreatDoor
open Go.RowKit

structure Nd where mk ::
  k : Int
  n : Int
  s : List UInt8
  keys : List (List UInt8)
  vals : List Nd
theorem Nd.ind {P : Nd → Prop} (h : ∀ k n s ks vs, (∀ d ∈ vs, P d) → P (.mk k n s ks vs)) : ∀ d, P d
  | .mk k n s ks vs => h k n s ks vs fun d _ => Nd.ind h d
def ndZ : Nd := .mk 0 0 [] [] []
def ndK (k n : Int) (s : List UInt8) : Nd := .mk k n s [] []
structure Ps where
  i : Nat
  e : Int
  bad : Int
  op : Nat
def tkP (ts : List Tk) (i : Nat) : Tk := ts[i]?.getD tkZ
def atP (ts : List Tk) (en : Int) (s : Ps) : Int := if s.i < ts.length then (tkP ts s.i).at_ else en
def failP (s : Ps) (e a : Int) : Ps := if s.e = 0 then ⟨s.i, e, a, s.op⟩ else s
def isP (ts : List Tk) (k : Int) (s : Ps) : Bool := decide (s.e = 0) && (decide (s.i < ts.length) && decide ((tkP ts s.i).kind = k))
def advP (s : Ps) : Ps := ⟨s.i + 1, s.e, s.bad, s.op⟩
def stpP (ts : List Tk) (k : Int) (s : Ps) : Ps := bif isP ts k s then advP s else s
def needP (ts : List Tk) (en k : Int) (s : Ps) : Ps := bif isP ts k s then advP s else failP s 31 (atP ts en s)
def upP (s : Ps) : Ps := ⟨s.i, s.e, s.bad, s.op + 1⟩
def opnP (ts : List Tk) (s : Ps) : Ps := if 6 < s.op + 1 then failP (upP s) 32 (tkP ts (s.i - 1)).at_ else upP s
def clsP (s : Ps) : Ps := ⟨s.i, s.e, s.bad, s.op - 1⟩
def twcP (ts : List Tk) (en : Int) (ks : List (List UInt8)) (s : Ps) : Ps := if (tkP ts s.i).text ∈ ks then failP (advP s) 33 (atP ts en s) else advP s
def pairP (ts : List Tk) (en : Int) (V : Ps → Nd × Ps) (ks : List (List UInt8)) (vs : List Nd) (s : Ps) : List (List UInt8) × List Nd × Ps :=
  bif isP ts 11 s then (ks ++ [(tkP ts s.i).text], vs ++ [(V (needP ts en 5 (twcP ts en ks s))).1], (V (needP ts en 5 (twcP ts en ks s))).2)
  else (ks, vs, failP s 31 (atP ts en s))
abbrev Md := Option (List Nd ⊕ (List (List UInt8) × List Nd))
theorem Md.cs {motive : Md → Prop} (v : motive none) (l : ∀ acc, motive (some (.inl acc))) (o : ∀ ks vs, motive (some (.inr (ks, vs)))) : ∀ m : Md, motive m
  | none => v
  | some (.inl acc) => l acc
  | some (.inr (ks, vs)) => o ks vs
def lstE (ts : List Tk) (en : Int) (P : Md → Ps → Nd × Ps) (acc : List Nd) (s : Ps) : Nd × Ps :=
  bif isP ts 6 s then P ((some (.inl acc))) (advP s) else (.mk 5 0 [] [] acc, clsP (needP ts en 4 s))
def objE (ts : List Tk) (en : Int) (P : Md → Ps → Nd × Ps) (r : List (List UInt8) × List Nd × Ps) : Nd × Ps :=
  bif isP ts 6 r.2.2 then P ((some (.inr (r.1, r.2.1)))) (advP r.2.2) else (.mk 6 0 [] r.1 r.2.1, clsP (needP ts en 2 r.2.2))
def lstB (ts : List Tk) (P : Md → Ps → Nd × Ps) (s : Ps) : Nd × Ps :=
  bif isP ts 4 (opnP ts s) then (.mk 5 0 [] [] [], clsP (advP (opnP ts s))) else P ((some (.inl []))) (opnP ts s)
def objB (ts : List Tk) (P : Md → Ps → Nd × Ps) (s : Ps) : Nd × Ps :=
  bif isP ts 2 (opnP ts s) then (.mk 6 0 [] [] [], clsP (advP (opnP ts s))) else P ((some (.inr ([], [])))) (opnP ts s)
def prsF (ts : List Tk) (en : Int) : Nat → Md → Ps → Nd × Ps
  | 0, _, s => (ndZ, s)
  | f + 1, none, s =>
    if s.e ≠ 0 then (ndZ, s)
    else bif isP ts 7 s then (ndK 1 0 [], advP s)
    else bif isP ts 8 s then (ndK 2 1 [], advP s)
    else bif isP ts 9 s then (ndK 2 0 [], advP s)
    else bif isP ts 10 s then (ndK 3 (tkP ts s.i).n [], advP s)
    else bif isP ts 11 s then (ndK 4 0 (tkP ts s.i).text, advP s)
    else bif isP ts 3 s then lstB ts (prsF ts en f) (advP s)
    else bif isP ts 1 s then objB ts (prsF ts en f) (advP s)
    else (ndZ, failP s 31 (atP ts en s))
  | f + 1, (some (.inl acc)), s => lstE ts en (prsF ts en f) (acc ++ [(prsF ts en f none s).1]) (prsF ts en f none s).2
  | f + 1, (some (.inr (ks, vs))), s => objE ts en (prsF ts en f) (pairP ts en (prsF ts en f none) ks vs s)
def ps0 : Ps := ⟨0, 0, 0, 0⟩
def endP (ts : List Tk) (en : Int) (r : Nd × Ps) : Ps := if r.2.e = 0 ∧ r.2.i < ts.length then failP r.2 14 (atP ts en r.2) else r.2
def prsT (ts : List Tk) (en : Int) : Nd × Int × Int :=
  if (endP ts en (prsF ts en (2 * ts.length + 1) none ps0)).e = 0 then ((prsF ts en (2 * ts.length + 1) none ps0).1, 0, 0)
  else (ndZ, (endP ts en (prsF ts en (2 * ts.length + 1) none ps0)).e, (endP ts en (prsF ts en (2 * ts.length + 1) none ps0)).bad)
def prsA (l : List UInt8) : Nd × Int × Int := if cutE l = 0 then prsT (cutL l) (l.length : Int) else (ndZ, cutE l, cutP l)
theorem isP_spec {ts : List Tk} {k : Int} {s : Ps} (h : isP ts k s = true) : s.e = 0 ∧ s.i < ts.length ∧ (tkP ts s.i).kind = k := by
  unfold isP at h
  simp only [Bool.and_eq_true, decide_eq_true_eq] at h
  exact h
@[simp] theorem advP_i (s : Ps) : (advP s).i = s.i + 1 := rfl
@[simp] theorem advP_op (s : Ps) : (advP s).op = s.op := rfl
@[simp] theorem clsP_i (s : Ps) : (clsP s).i = s.i := rfl
@[simp] theorem clsP_op (s : Ps) : (clsP s).op = s.op - 1 := rfl
@[simp] theorem failP_i (s : Ps) (e a : Int) : (failP s e a).i = s.i := by unfold failP; split <;> rfl
@[simp] theorem failP_op (s : Ps) (e a : Int) : (failP s e a).op = s.op := by unfold failP; split <;> rfl
@[simp] theorem opnP_i (ts : List Tk) (s : Ps) : (opnP ts s).i = s.i := by unfold opnP; split <;> simp [upP]
@[simp] theorem opnP_op (ts : List Tk) (s : Ps) : (opnP ts s).op = s.op + 1 := by unfold opnP; split <;> simp [upP]
@[simp] theorem needP_op (ts : List Tk) (en k : Int) (s : Ps) : (needP ts en k s).op = s.op := by unfold needP; cases isP ts k s <;> simp [advP]
@[simp] theorem twcP_op (ts : List Tk) (en : Int) (ks : List (List UInt8)) (s : Ps) : (twcP ts en ks s).op = s.op := by unfold twcP; split <;> simp [advP]
@[simp] theorem twcP_i (ts : List Tk) (en : Int) (ks : List (List UInt8)) (s : Ps) : (twcP ts en ks s).i = s.i + 1 := by unfold twcP; split <;> simp [advP]
theorem needP_i (ts : List Tk) (en k : Int) (s : Ps) (h : s.i ≤ ts.length) : s.i ≤ (needP ts en k s).i ∧ (needP ts en k s).i ≤ ts.length := by
  unfold needP
  cases hk : isP ts k s with
  | true => have := (isP_spec hk).2.1; simp only [cond_true, advP]; omega
  | false => simp only [cond_false, failP_i]; omega
def okP (ts : List Tk) (m : Md) (s : Ps) : Prop := s.i ≤ ts.length ∧ s.op ≤ s.i ∧ (match m with | none => True | _ => 1 ≤ s.op)
def leP (ts : List Tk) (m : Md) (s t : Ps) : Prop := s.i ≤ t.i ∧ t.i ≤ ts.length ∧ (match m with | none => t.op = s.op | _ => t.op + 1 = s.op)
theorem leP_fail {ts : List Tk} {s : Ps} (e a : Int) (h : s.i ≤ ts.length) : leP ts none s (failP s e a) := ⟨by simp, by simpa using h, by simp⟩
theorem prsF_ok (ts : List Tk) (en : Int) : ∀ (f : Nat) (m : Md) (s : Ps), 2 * (ts.length - s.i) + (match m with | none => 1 | _ => 2) ≤ f → okP ts m s → leP ts m s (prsF ts en f m s).2
  | 0, none, s => fun h _ => by simp at h
  | 0, (some (.inl _)), s => fun h _ => by simp at h
  | 0, (some (.inr (_, _))), s => fun h _ => by simp at h
  | f + 1, none, s => fun hf h => by
    obtain ⟨h1, h2, -⟩ := h
    have adv : ∀ k, isP ts k s = true → leP ts none s (advP s) := fun k hk => by
      have := (isP_spec hk).2.1
      exact ⟨by simp, by simp only [advP_i]; omega, rfl⟩
    rw [prsF]
    split
    · exact ⟨Nat.le_refl _, h1, rfl⟩
    · cases h7 : isP ts 7 s with
      | true => exact adv _ h7
      | false =>
        cases h8 : isP ts 8 s with
        | true => exact adv _ h8
        | false =>
          cases h9 : isP ts 9 s with
          | true => exact adv _ h9
          | false =>
            cases h10 : isP ts 10 s with
            | true => exact adv _ h10
            | false =>
              cases h11 : isP ts 11 s with
              | true => exact adv _ h11
              | false =>
                cases h3 : isP ts 3 s with
                | true =>
                  have hi := (isP_spec h3).2.1
                  simp only [cond_true, cond_false]
                  unfold lstB
                  cases h4 : isP ts 4 (opnP ts (advP s)) with
                  | true =>
                    have h5 := (isP_spec h4).2.1
                    simp only [opnP_i, advP_i] at h5
                    simp only [cond_true]
                    exact ⟨by simp; omega, by simp; omega, by simp⟩
                  | false =>
                    simp only [cond_false]
                    have := prsF_ok ts en f ((some (.inl []))) (opnP ts (advP s)) (by simp at hf ⊢; omega) ⟨by simp; omega, by simp; omega, by simp⟩
                    obtain ⟨a, b, c⟩ := this
                    simp at a c
                    exact ⟨by omega, b, by omega⟩
                | false =>
                  cases h0 : isP ts 1 s with
                  | true =>
                    have hi := (isP_spec h0).2.1
                    simp only [cond_true, cond_false]
                    unfold objB
                    cases h4 : isP ts 2 (opnP ts (advP s)) with
                    | true =>
                      have h5 := (isP_spec h4).2.1
                      simp only [opnP_i, advP_i] at h5
                      simp only [cond_true]
                      exact ⟨by simp; omega, by simp; omega, by simp⟩
                    | false =>
                      simp only [cond_false]
                      have := prsF_ok ts en f ((some (.inr ([], [])))) (opnP ts (advP s)) (by simp at hf ⊢; omega) ⟨by simp; omega, by simp; omega, by simp⟩
                      obtain ⟨a, b, c⟩ := this
                      simp at a c
                      exact ⟨by omega, b, by omega⟩
                  | false => exact leP_fail _ _ h1
  | f + 1, (some (.inl acc)), s => fun hf h => by
    obtain ⟨h1, h2, h3⟩ := h
    simp only at h3 hf
    obtain ⟨a, b, c⟩ := prsF_ok ts en f none s (by simp; omega) ⟨h1, h2, trivial⟩
    simp only at c
    rw [prsF]
    unfold lstE
    cases h6 : isP ts 6 (prsF ts en f none s).2 with
    | true =>
      have h7 := (isP_spec h6).2.1
      simp only [cond_true]
      obtain ⟨a2, b2, c2⟩ := prsF_ok ts en f ((some (.inl (acc ++ [(prsF ts en f none s).1])))) (advP (prsF ts en f none s).2) (by simp; omega) ⟨by simp; omega, by simp; omega, by simp; omega⟩
      simp at a2 b2 c2
      exact ⟨by omega, b2, by simp only; omega⟩
    | false =>
      simp only [cond_false]
      have := needP_i ts en 4 _ b
      exact ⟨by simp; omega, by simp; omega, by simp; omega⟩
  | f + 1, (some (.inr (ks, vs))), s => fun hf h => by
    obtain ⟨h1, h2, h3⟩ := h
    simp only at h3 hf
    have hp : leP ts none s (pairP ts en (prsF ts en f none) ks vs s).2.2 := by
      unfold pairP
      cases h11 : isP ts 11 s with
      | true =>
        have hi := (isP_spec h11).2.1
        simp only [cond_true]
        have hn := needP_i ts en 5 (twcP ts en ks s) (by simp; omega)
        simp at hn
        obtain ⟨a, b, c⟩ := prsF_ok ts en f none (needP ts en 5 (twcP ts en ks s)) (by simp; omega) ⟨by omega, by simp; omega, trivial⟩
        simp at c
        exact ⟨by omega, b, by simp only; omega⟩
      | false => simp only [cond_false]; exact leP_fail _ _ h1
    obtain ⟨a, b, c⟩ := hp
    simp only at c
    rw [prsF]
    unfold objE
    cases h6 : isP ts 6 (pairP ts en (prsF ts en f none) ks vs s).2.2 with
    | true =>
      have h7 := (isP_spec h6).2.1
      simp only [cond_true]
      obtain ⟨a2, b2, c2⟩ := prsF_ok ts en f ((some (.inr ((pairP ts en (prsF ts en f none) ks vs s).1, (pairP ts en (prsF ts en f none) ks vs s).2.1)))) (advP (pairP ts en (prsF ts en f none) ks vs s).2.2) (by simp; omega) ⟨by simp; omega, by simp; omega, by simp; omega⟩
      simp at a2 b2 c2
      exact ⟨by omega, b2, by simp only; omega⟩
    | false =>
      simp only [cond_false]
      have := needP_i ts en 2 _ b
      exact ⟨by simp; omega, by simp; omega, by simp; omega⟩
end Go.Proofs.YtalnbddkhojjbaaGreatDoor
namespace Go.Proofs.YtalnbddkhojjbaaGreatDoor
open Go.RowKit

def frmN : Nd → Bool
  | .mk k n _ ks vs => decide (1 ≤ k ∧ k ≤ 6) && !decide (k = 3 ∧ n < 0) && !decide (k = 6 ∧ ks.length ≠ vs.length) && (vs.map fun d => frmN d).all id
def frmL : List Nd → Bool
  | [] => true
  | d :: r => frmN d && frmL r
theorem frmL_mpp : ∀ l : List Nd, (l.map fun d => frmN d).all id = frmL l
  | [] => rfl
  | d :: r => by rw [List.map_cons, List.all_cons, frmL_mpp r, frmL]; rfl
theorem frmN_mk (k n : Int) (s : List UInt8) (ks : List (List UInt8)) (vs : List Nd) : frmN (.mk k n s ks vs) = (decide (1 ≤ k ∧ k ≤ 6) && !decide (k = 3 ∧ n < 0) && !decide (k = 6 ∧ ks.length ≠ vs.length) && frmL vs) := by rw [frmN, frmL_mpp]
def plnN : Nd → Bool
  | .mk _ _ s ks vs => decide (quE s = 0) && ks.all (fun t => decide (quE t = 0)) && (vs.map fun d => plnN d).all id
def plnL : List Nd → Bool
  | [] => true
  | d :: r => plnN d && plnL r
theorem plnL_mpp : ∀ l : List Nd, (l.map fun d => plnN d).all id = plnL l
  | [] => rfl
  | d :: r => by rw [List.map_cons, List.all_cons, plnL_mpp r, plnL]; rfl
theorem plnN_mk (k n : Int) (s : List UInt8) (ks : List (List UInt8)) (vs : List Nd) : plnN (.mk k n s ks vs) = (decide (quE s = 0) && ks.all (fun t => decide (quE t = 0)) && plnL vs) := by rw [plnN, plnL_mpp]
def dupK : List (List UInt8) → Bool
  | [] => false
  | a :: r => r.contains a || dupK r
def twcN : Nd → Bool
  | .mk _ _ _ ks vs => dupK ks || (vs.map fun d => twcN d).any id
def twcL : List Nd → Bool
  | [] => false
  | d :: r => twcN d || twcL r
theorem twcL_mpp : ∀ l : List Nd, (l.map fun d => twcN d).any id = twcL l
  | [] => rfl
  | d :: r => by rw [List.map_cons, List.any_cons, twcL_mpp r, twcL]; rfl
theorem twcN_mk (k n : Int) (s : List UInt8) (ks : List (List UInt8)) (vs : List Nd) : twcN (.mk k n s ks vs) = (dupK ks || twcL vs) := by rw [twcN, twcL_mpp]
def depN : Nd → Nat
  | .mk k _ _ _ vs => if k = 5 ∨ k = 6 then (vs.map fun d => depN d).foldr max 0 + 1 else 0
def depL : List Nd → Nat
  | [] => 0
  | d :: r => max (depN d) (depL r)
theorem depL_mpp : ∀ l : List Nd, (l.map fun d => depN d).foldr max 0 = depL l
  | [] => rfl
  | d :: r => by rw [List.map_cons, List.foldr_cons, depL_mpp r, depL]
theorem depN_mk (k n : Int) (s : List UInt8) (ks : List (List UInt8)) (vs : List Nd) : depN (.mk k n s ks vs) = if k = 5 ∨ k = 6 then depL vs + 1 else 0 := by rw [depN, depL_mpp]
def digF : Nat → Nat → List UInt8
  | 0, _ => []
  | f + 1, n => if n < 10 then [u8 (48 + n)] else digF f (n / 10) ++ [u8 (48 + n % 10)]
def digN (n : Int) : List UInt8 := digF 20 n.toNat
def jnL : List (List UInt8) → Bool → List UInt8
  | [], _ => []
  | t :: r, b => (bif b then [] else [44]) ++ t ++ jnL r false
def jnO : List (List UInt8) → List (List UInt8) → Bool → List UInt8
  | ks, t :: r, b => (bif b then [] else [44]) ++ (quS (ks.headD [])) ++ [58] ++ t ++ jnO ks.tail r false
  | _, [], _ => []
def txtN : Nd → List UInt8
  | .mk k n s ks vs =>
    if k = 1 then [110, 117, 108, 108]
    else if k = 2 then (if n = 1 then [116, 114, 117, 101] else [102, 97, 108, 115, 101])
    else if k = 3 then digN n
    else if k = 4 then quS s
    else if k = 6 then 123 :: (jnO ks (vs.map fun d => txtN d) true ++ [125])
    else 91 :: (jnL (vs.map fun d => txtN d) true ++ [93])
def txtL : List Nd → Bool → List UInt8
  | [], _ => []
  | d :: r, b => (bif b then [] else [44]) ++ txtN d ++ txtL r false
def txtO : List (List UInt8) → List Nd → Bool → List UInt8
  | ks, d :: r, b => (bif b then [] else [44]) ++ (quS (ks.headD [])) ++ [58] ++ txtN d ++ txtO ks.tail r false
  | _, [], _ => []
theorem txtL_mpp : ∀ (l : List Nd) (b : Bool), jnL (l.map fun d => txtN d) b = txtL l b
  | [], _ => rfl
  | d :: r, b => by rw [List.map_cons, jnL, txtL_mpp r false, txtL]
theorem txtO_mpp : ∀ (l : List Nd) (ks : List (List UInt8)) (b : Bool), jnO ks (l.map fun d => txtN d) b = txtO ks l b
  | [], ks, b => by rw [List.map_nil, jnO, txtO]
  | d :: r, ks, b => by rw [List.map_cons, jnO, txtO_mpp r ks.tail false, txtO]
theorem txtN_mk (k n : Int) (s : List UInt8) (ks : List (List UInt8)) (vs : List Nd) : txtN (.mk k n s ks vs) =
    if k = 1 then [110, 117, 108, 108]
    else if k = 2 then (if n = 1 then [116, 114, 117, 101] else [102, 97, 108, 115, 101])
    else if k = 3 then digN n
    else if k = 4 then quS s
    else if k = 6 then 123 :: (txtO ks vs true ++ [125])
    else 91 :: (txtL vs true ++ [93]) := by rw [txtN, txtL_mpp, txtO_mpp]
def prtE (d : Nd) : Int := if frmN d = false then 11 else if plnN d = false then 30 else if twcN d = true then 33 else if 6 < depN d then 32 else 0
def prtS (d : Nd) : List UInt8 := if prtE d = 0 then txtN d else []
def fldK (key : List UInt8) : List (List UInt8) → List Nd → Option Nd
  | k :: ks, v :: vs => if k = key then some v else fldK key ks vs
  | _, _ => none
def fldN : Nd → List UInt8 → Option Nd
  | .mk k _ _ ks vs, key => if k = 6 then fldK key ks vs else none
def szN : Nd → Nat
  | .mk _ _ s ks vs => s.length + (ks.map (fun t => t.length + 16)).sum + (vs.map fun d => szN d).sum + 80
def szL : List Nd → Nat
  | [] => 0
  | d :: r => szN d + szL r
theorem szL_mpp : ∀ l : List Nd, (l.map fun d => szN d).sum = szL l
  | [] => rfl
  | d :: r => by rw [List.map_cons, List.sum_cons, szL_mpp r, szL]
theorem szN_mk (k n : Int) (s : List UInt8) (ks : List (List UInt8)) (vs : List Nd) : szN (.mk k n s ks vs) = s.length + (ks.map (fun t => t.length + 16)).sum + szL vs + 80 := by rw [szN, szL_mpp]
end Go.Proofs.YtalnbddkhojjbaaGreatDoor
namespace Go.Proofs.YtalnbddkhojjbaaGreatDoor
open Go.RowKit


def secA (s : Nat → UInt8) : Array Value := Array.ofFn (n := 64) fun i => Value.int .u8 ((s i).toNat : Int)
@[simp, go_sem] theorem secA_size (s : Nat → UInt8) : (secA s).size = 64 := by simp [secA]
theorem secA_get (s : Nat → UInt8) (i : Nat) (h : i < 64) : (secA s)[i]? = some (Value.int .u8 ((s i).toNat : Int)) := by simp [secA, h]
theorem secA_of (c : Array Value) (hs : c.size = 64) (h : ∀ i, i < 64 → ∃ x : Int, c[i]? = some (Value.int .u8 x) ∧ 0 ≤ x ∧ x ≤ 255) : ∃ s, c = secA s := by
  refine ⟨fun i => match c[i]? with | some (Value.int _ x) => UInt8.ofNat x.toNat | _ => 0, ?_⟩
  apply Array.ext_getElem?
  intro i
  by_cases hi : i < 64
  · obtain ⟨x, hx, h0, h1⟩ := h i hi
    rw [secA_get _ i hi, hx]
    simp only [UInt8.toNat_ofNat', Option.some.injEq, Value.int.injEq, true_and]
    omega
  · rw [Array.getElem?_eq_none (by omega), Array.getElem?_eq_none (by simp; omega)]

def rowAt (w : World) (n : Nat) : Array Value := match w.heap[n]? with | some (.cells c _ _) => c | _ => #[]
def rowOk (w : World) (n : Nat) : Bool := match w.heap[n]? with | some (.cells c _ fr) => c.size == 64 && fr == (0, 0) | _ => false
@[go_sem] theorem rowAt_drew (w : World) (n : Nat) : rowAt w.drew n = rowAt w n := rfl
@[go_sem] theorem rowOk_drew (w : World) (n : Nat) : rowOk w.drew n = rowOk w n := rfl
@[go_sem] theorem setRow_drew' (w : World) (n : Nat) (c : Array Value) : w.drew.setRow n c = (w.setRow n c).drew := rfl
@[go_sem] theorem rowAt_new (w : World) (n : Nat) (c : Array Value) (t : TypeId) (h : n = w.heap.size) : rowAt (w.alloc (.cells c t)) n = c := by
  subst h; unfold rowAt; rw [heap_alloc_last]
@[go_sem] theorem setRow_new (w : World) (n : Nat) (c c' : Array Value) (t : TypeId) (h : n = w.heap.size) : (w.alloc (.cells c t)).setRow n c' = w.alloc (.cells c' t) := by
  subst h; exact World.setRow_alloc_new w c c' t
theorem rows_below {B : Nat} {W w1 : World} (hb : Below B W w1) : (∀ n, n < B → rowOk w1 n = rowOk W n) ∧ (∀ n, n < B → rowAt w1 n = rowAt W n) :=
  ⟨fun n h => by unfold rowOk; rw [hb.block n h], fun n h => by unfold rowAt; rw [hb.block n h]⟩
theorem after {W w1 : World} (hb : Below W.heap.size W w1) : (∀ n, n < W.heap.size → rowOk w1 n = rowOk W n) ∧ (∀ n, n < W.heap.size → rowAt w1 n = rowAt W n) ∧
    (∀ b o, b < W.heap.size → w1.cell? ⟨b, o, none⟩ = W.cell? ⟨b, o, none⟩) ∧ (∀ b o, b < W.heap.size → w1.frozen? ⟨b, o, none⟩ = W.frozen? ⟨b, o, none⟩) ∧ W.heap.size ≤ w1.heap.size :=
  ⟨(rows_below hb).1, (rows_below hb).2, fun b o h => hb.cell (p := ⟨b, o, none⟩) h, fun b o h => hb.frozen (p := ⟨b, o, none⟩) h, hb.size⟩
section
variable (ρ : Operand → Value) (dst : Option Tmp) (ty ty' : TypeId) (pos : String) (after : Array Edge) (guard : Option (Nat × Bool))
end
theorem heap_setCell (w : World) (g i : Nat) (v : Value) (c : Array Value) (t : TypeId) (fr : Nat × Nat) (h : w.heap[g]? = some (.cells c t fr)) : (w.setCell ⟨g, i, none⟩ v).heap[g]? = some (.cells (c.setIfInBounds i v) t fr) := by
  unfold World.setCell
  rw [Array.getElem?_modify, if_pos rfl, h]
  rfl
theorem below_alloc (w : World) (o : Obj) : Below w.heap.size w (w.alloc o) := (Below.refl _ _).alloc (Nat.le_refl _) _
end Go.Proofs.YtalnbddkhojjbaaGreatDoor
namespace Go.Proofs.YtalnbddkhojjbaaGreatDoor
open Go.RowKit

def rowL (w : World) (n : Nat) : Bool := match w.heap[n]? with | some (.cells _ _ fr) => fr == (0, 0) | _ => false
@[go_sem] theorem rowL_drew (w : World) (n : Nat) : rowL w.drew n = rowL w n := rfl
@[go_sem] theorem rowL_new (w : World) (n : Nat) (c : Array Value) (t : TypeId) (h : n = w.heap.size) : rowL (w.alloc (.cells c t)) n = true := by
  subst h; unfold rowL; rw [heap_alloc_last]; rfl
theorem row_of_L {w : World} {n : Nat} (h : rowL w n = true) : ∃ t, w.heap[n]? = some (.cells (rowAt w n) t (0, 0)) := by
  unfold rowL at h
  unfold rowAt
  cases hq : w.heap[n]? with
  | none => simp [hq] at h
  | some o =>
    cases o with
    | cells c t fr =>
      simp [hq] at h
      subst h
      exact ⟨t, rfl⟩
    | _ => simp [hq] at h
theorem rowL_lt {w : World} {n : Nat} (h : rowL w n = true) : n < w.heap.size := by
  obtain ⟨t, hg⟩ := row_of_L h
  exact (Array.getElem?_eq_some_iff.1 hg).1
@[go_sem] theorem rowAt_setRow_L (w : World) (n : Nat) (c : Array Value) (h : rowL w n = true) : rowAt (w.setRow n c) n = c := by
  obtain ⟨t, hg⟩ := row_of_L h
  unfold rowAt; rw [setRow_heap w n _ c t _ hg]
@[go_sem] theorem rowL_setRow_same (w : World) (n : Nat) (c : Array Value) (h : rowL w n = true) : rowL (w.setRow n c) n = true := by
  obtain ⟨t, hg⟩ := row_of_L h
  unfold rowL; rw [setRow_heap w n _ c t _ hg]; rfl
theorem cell_rowL {w : World} {n : Nat} (h : rowL w n = true) (i : Nat) : w.cell? ⟨n, i, none⟩ = (rowAt w n)[i]? := by
  obtain ⟨t, hg⟩ := row_of_L h
  exact cell_of_row w n i _ t _ hg
theorem frozen_rowL {w : World} {n : Nat} (h : rowL w n = true) (i : Nat) : w.frozen? ⟨n, i, none⟩ = false := by
  obtain ⟨t, hg⟩ := row_of_L h
  simp [World.frozen?, hg]
def RowC (w : World) (g : Nat) (c : Array Value) : Prop := rowL w g = true ∧ rowAt w g = c
theorem RowC.block {w w1 : World} {g : Nat} {c : Array Value} (h : RowC w g c) (hb : w1.heap[g]? = w.heap[g]?) : RowC w1 g c := by
  unfold RowC rowL rowAt at *
  rw [hb]; exact h
theorem RowC.kept {w w1 : World} {g : Nat} {c : Array Value} (h : RowC w g c) (hb : Below w.heap.size w w1) : RowC w1 g c := h.block (hb.block g (rowL_lt h.1))
theorem RowC.new (w : World) (c : Array Value) (t : TypeId) : RowC (w.alloc (.cells c t)) w.heap.size c := ⟨rowL_new _ _ _ _ rfl, rowAt_new _ _ _ _ rfl⟩
theorem RowC.lt {w : World} {g : Nat} {c : Array Value} (h : RowC w g c) : g < w.heap.size := rowL_lt h.1
theorem RowC.cell {w : World} {g : Nat} {c : Array Value} (h : RowC w g c) (i : Nat) : w.cell? ⟨g, i, none⟩ = c[i]? := by rw [cell_rowL h.1, h.2]
theorem RowC.frozen {w : World} {g : Nat} {c : Array Value} (h : RowC w g c) (i : Nat) : w.frozen? ⟨g, i, none⟩ = false := frozen_rowL h.1 i
theorem RowC.set {w : World} {g : Nat} {c : Array Value} (h : RowC w g c) (i : Nat) (v : Value) : RowC (w.setCell ⟨g, i, none⟩ v) g (c.setIfInBounds i v) := by
  obtain ⟨t, hg⟩ := row_of_L h.1
  have e := heap_setCell w g i v _ t _ hg
  constructor
  · unfold rowL; rw [e]; rfl
  · have e2 : rowAt (w.setCell ⟨g, i, none⟩ v) g = (rowAt w g).setIfInBounds i v := by
      show (match (w.setCell ⟨g, i, none⟩ v).heap[g]? with | some (.cells c _ _) => c | _ => #[]) = _
      rw [e]
    rw [e2, h.2]
theorem heap_setCell_ne (w : World) (g k i : Nat) (v : Value) (h : g ≠ k) : (w.setCell ⟨g, i, none⟩ v).heap[k]? = w.heap[k]? := by
  simp only [World.setCell, Array.getElem?_modify]; rw [if_neg h]
theorem RowC.set_ne {w : World} {g k : Nat} {c : Array Value} (h : RowC w k c) (i : Nat) (v : Value) (hn : g ≠ k) : RowC (w.setCell ⟨g, i, none⟩ v) k c := h.block (heap_setCell_ne w g k i v hn)
theorem RowC.setRow {w : World} {g : Nat} {c : Array Value} (h : RowC w g c) (d : Array Value) : RowC (w.setRow g d) g d := ⟨rowL_setRow_same _ _ _ h.1, rowAt_setRow_L _ _ _ h.1⟩
def layC (c : Array Value) (o : Nat) (vs : Array Value) : Array Value := (c.toList.take o ++ vs.toList ++ c.toList.drop (o + vs.size)).toArray
theorem layC_all (c vs : Array Value) (h : vs.size = c.size) : layC c 0 vs = vs := by
  unfold layC
  rw [List.drop_of_length_le (by simp [h])]; simp
def bigLoad (t : TypeId) (p : Value) : Sem Next := do pure (.value (← Instr.loadAt t p))
def bigStore (t : TypeId) (p x : Value) : Sem Next := do Instr.storeAt t p x; pure .skip
def bigAlloc (t : TypeId) : Sem Next := do pure (.value (← Instr.alloc t true (.tuple #[])))
def bigBox (t : TypeId) (x : Value) : Sem Next := do pure (.value (← Instr.box t x))
theorem run_bigLoad (t : TypeId) (d : TypeDesc) (n : Nat) (hu : Tryz.prog.underlying t = some d) (hd : d.isRow = true) (hi : (Tryz.prog.info? t).map (·.size) = some n) (w : World) (g o : Nat) (h : rowL w g = true) (hs : o + n ≤ (rowAt w g).size) :
    (bigLoad t (.pointer (some ⟨g, o, none⟩))).run Tryz.prog w = .ok (.value (.agg ((rowAt w g).extract o (o + n)))) w := by
  obtain ⟨ty, hg⟩ := row_of_L h
  have hr := World.rangeAt_of_block hg o n
  simp only [bigLoad, Sem.run_bind]
  rw [run_loadAt_mid w g o t _ d hr hu hd (by rw [hi]; simp; omega), Array.toArray_toList]
  rfl
theorem run_bigStore (t : TypeId) (n : Nat) (hi : (Tryz.prog.info? t).map (·.size) = some n) (w : World) (g o : Nat) (vs : Array Value) (h : rowL w g = true) (hn : vs.size = n) (hs : o + n ≤ (rowAt w g).size) (h1 : vs.all (·.oneCell') = true) :
    (bigStore t (.pointer (some ⟨g, o, none⟩)) (.agg vs)).run Tryz.prog w = .ok .skip (w.setRow g (layC (rowAt w g) o vs)) := by
  obtain ⟨ty, hg⟩ := row_of_L h
  have hst := run_storeCells_at Tryz.prog g o ty vs.toList 0 (rowAt w g) w hg (by simp; omega) (fun v hv => Array.all_eq_true_iff_forall_mem.1 h1 v (by simpa using hv))
  cases hq : Tryz.prog.info? t with
  | none => simp [hq] at hi
  | some i =>
    simp [hq] at hi
    simp only [Nat.add_zero, Array.length_toList] at hst
    simp [bigStore, Instr.storeAt, Instr.sureAddr, storeVar, sizeOf, typeInfo, hq, hi, Value.cells, hn, hst, layC]
theorem run_bigBox (t : TypeId) (c : Array Value) (w : World) : (bigBox t (.agg c)).run Tryz.prog w = .ok (.value (.pointer (some ⟨w.heap.size, 0, none⟩))) (w.alloc (.cells c t)) := by
  simp only [bigBox, Instr.box, newVar, Value.cells, Sem.run_bind]
  rfl
@[go_sem] theorem ltUp2 (n : Nat) : n < n + 1 + 1 := by omega
@[go_sem] theorem ltUp3 (n : Nat) : n < n + 1 + 1 + 1 := by omega
@[go_sem] theorem ltUp4 (n : Nat) : n < n + 1 + 1 + 1 + 1 := by omega
@[go_sem] theorem ltUp5 (n : Nat) : n < n + 1 + 1 + 1 + 1 + 1 := by omega
@[go_sem] theorem ltUp6 (n : Nat) : n < n + 1 + 1 + 1 + 1 + 1 + 1 := by omega
@[go_sem] theorem ltUp9 (n : Nat) : n < n + 1 + 1 + 1 + 1 + 1 + 1 + 1 + 1 + 1 := by omega
def OneC (c : Array Value) : Bool := c.all (·.oneCell')
end Go.Proofs.YtalnbddkhojjbaaGreatDoor
namespace Go.Proofs.YtalnbddkhojjbaaGreatDoor
open Go.RowKit


def dg_secA (s : Nat → UInt8) : Array Value := Array.ofFn (n := 32) fun i => Value.int .u8 ((s i).toNat : Int)
def dg_secZ : Nat → UInt8 := fun _ => 0
def dg_secEq (s t : Nat → UInt8) : Bool := (List.range 32).all fun i => s i == t i

@[simp, go_sem] theorem dg_secA_size (s : Nat → UInt8) : (dg_secA s).size = 32 := by simp [dg_secA]
theorem dg_secA_get (s : Nat → UInt8) (i : Nat) (h : i < 32) : (dg_secA s)[i]? = some (Value.int .u8 ((s i).toNat : Int)) := by simp [dg_secA, h]
theorem dg_secEq_iff (s t : Nat → UInt8) : dg_secEq s t = true ↔ ∀ i, i < 32 → s i = t i := by simp [dg_secEq]
theorem dg_secA_inj (s t : Nat → UInt8) : dg_secA s = dg_secA t ↔ ∀ i, i < 32 → s i = t i := by
  constructor
  · intro h i hi
    have := congrArg (fun c => c[i]?) h
    simp only [dg_secA_get s i hi, dg_secA_get t i hi, Option.some.injEq, Value.int.injEq, true_and] at this
    exact UInt8.toNat_inj.1 (by omega)
  · intro h
    apply Array.ext_getElem?
    intro i
    by_cases hi : i < 32
    · rw [dg_secA_get s i hi, dg_secA_get t i hi, h i hi]
    · rw [Array.getElem?_eq_none (by simp; omega), Array.getElem?_eq_none (by simp; omega)]
theorem dg_secA_one (s : Nat → UInt8) : (dg_secA s).all (·.oneCell') = true := by
  rw [Array.all_eq_true_iff_forall_mem]
  intro v hv
  simp only [dg_secA, Array.mem_ofFn] at hv
  obtain ⟨i, rfl⟩ := hv
  rfl
theorem dg_secA_set (s : Nat → UInt8) (i : Nat) (b : UInt8) (h : i < 32) : (dg_secA s).setIfInBounds i (Value.int .u8 (b.toNat : Int)) = dg_secA (upd s i b) := by
  apply Array.ext_getElem?
  intro j
  by_cases hj : j < 32
  · rw [dg_secA_get _ j hj]
    by_cases e : i = j
    · subst e; simp [upd, h]
    · rw [Array.getElem?_setIfInBounds_ne e, dg_secA_get s j hj]; simp [upd, Ne.symm e]
  · rw [Array.getElem?_eq_none (by simp; omega), Array.getElem?_eq_none (by simp; omega)]
theorem dg_secA_of (c : Array Value) (hs : c.size = 32) (h : ∀ i, i < 32 → ∃ x : Int, c[i]? = some (Value.int .u8 x) ∧ 0 ≤ x ∧ x ≤ 255) : ∃ s, c = dg_secA s := by
  refine ⟨fun i => match c[i]? with | some (Value.int _ x) => UInt8.ofNat x.toNat | _ => 0, ?_⟩
  apply Array.ext_getElem?
  intro i
  by_cases hi : i < 32
  · obtain ⟨x, hx, h0, h1⟩ := h i hi
    rw [dg_secA_get _ i hi, hx]
    simp only [UInt8.toNat_ofNat', Option.some.injEq, Value.int.injEq, true_and]
    omega
  · rw [Array.getElem?_eq_none (by omega), Array.getElem?_eq_none (by simp; omega)]

def dg_rowAt (w : World) (n : Nat) : Array Value := match w.heap[n]? with | some (.cells c _ _) => c | _ => #[]
def dg_rowOk (w : World) (n : Nat) : Bool := match w.heap[n]? with | some (.cells c _ fr) => c.size == 32 && fr == (0, 0) | _ => false
@[go_sem] theorem dg_rowAt_drew (w : World) (n : Nat) : dg_rowAt w.drew n = dg_rowAt w n := rfl
@[go_sem] theorem dg_rowOk_drew (w : World) (n : Nat) : dg_rowOk w.drew n = dg_rowOk w n := rfl
@[go_sem] theorem dg_setRow_drew' (w : World) (n : Nat) (c : Array Value) : w.drew.setRow n c = (w.setRow n c).drew := rfl
@[go_sem] theorem dg_rowAt_new (w : World) (n : Nat) (c : Array Value) (t : TypeId) (h : n = w.heap.size) : dg_rowAt (w.alloc (.cells c t)) n = c := by
  subst h; unfold dg_rowAt; rw [heap_alloc_last]
@[go_sem] theorem dg_rowOk_new (w : World) (n : Nat) (c : Array Value) (t : TypeId) (h : n = w.heap.size) (hc : c.size = 32) : dg_rowOk (w.alloc (.cells c t)) n = true := by
  subst h; unfold dg_rowOk; rw [heap_alloc_last]; simp [hc]
theorem dg_row_of_ok {w : World} {n : Nat} (h : dg_rowOk w n = true) : ∃ t, w.heap[n]? = some (.cells (dg_rowAt w n) t (0, 0)) ∧ (dg_rowAt w n).size = 32 := by
  unfold dg_rowOk at h
  unfold dg_rowAt
  cases hq : w.heap[n]? with
  | none => simp [hq] at h
  | some o =>
    cases o with
    | cells c t fr =>
      simp [hq] at h
      obtain ⟨h1, h2⟩ := h
      subst h2
      exact ⟨t, rfl, h1⟩
    | _ => simp [hq] at h

@[go_sem] theorem dg_rowAt_setRow_same (w : World) (n : Nat) (c : Array Value) (h : dg_rowOk w n = true) : dg_rowAt (w.setRow n c) n = c := by
  obtain ⟨t, hg, _⟩ := dg_row_of_ok h
  unfold dg_rowAt; rw [setRow_heap w n _ c t _ hg]
@[go_sem] theorem dg_rowOk_setRow_same (w : World) (n : Nat) (c : Array Value) (h : dg_rowOk w n = true) (hc : c.size = 32) : dg_rowOk (w.setRow n c) n = true := by
  obtain ⟨t, hg, _⟩ := dg_row_of_ok h
  unfold dg_rowOk; rw [setRow_heap w n _ c t _ hg]; simp [hc]
theorem dg_rows_below {B : Nat} {W w1 : World} (hb : Below B W w1) : (∀ n, n < B → dg_rowOk w1 n = dg_rowOk W n) ∧ (∀ n, n < B → dg_rowAt w1 n = dg_rowAt W n) :=
  ⟨fun n h => by unfold dg_rowOk; rw [hb.block n h], fun n h => by unfold dg_rowAt; rw [hb.block n h]⟩
theorem dg_keepRow {B n : Nat} {W w1 : World} {c : Array Value} (hb : Below B W w1) (h : n < B) (hk : dg_rowOk W n = true) (hc : dg_rowAt W n = c) : dg_rowOk w1 n = true ∧ dg_rowAt w1 n = c :=
  ⟨by rw [(dg_rows_below hb).1 n h]; exact hk, by rw [(dg_rows_below hb).2 n h]; exact hc⟩
theorem dg_below_row {B n : Nat} {w0 w : World} (hb : Below B w0 w) (h : B ≤ n) (c : Array Value) : Below B w0 (w.setRow n c) :=
  ⟨hb.os, hb.tape, hb.output, by simpa using hb.size, fun k hk => by rw [setRow_other w n k c (by omega)]; exact hb.block k hk⟩

theorem dg_cell_rowAt {w : World} {n : Nat} (h : dg_rowOk w n = true) (i : Nat) : w.cell? ⟨n, i, none⟩ = (dg_rowAt w n)[i]? := by
  obtain ⟨t, hg, _⟩ := dg_row_of_ok h
  exact cell_of_row w n i _ t _ hg
theorem dg_lt_of_rowOk {w : World} {n : Nat} (h : dg_rowOk w n = true) : n < w.heap.size := by
  obtain ⟨t, hg, _⟩ := dg_row_of_ok h
  exact (Array.getElem?_eq_some_iff.1 hg).1
theorem info33 : (Tryz.prog.info? 33).map (fun i => (i.zero, i.size)) = some (some (.agg (dg_secA dg_secZ)), 32) := by kernel_rfl
theorem size33 : (Tryz.prog.info? 33).map (·.size) = some 32 := (zero_of_info info33).2
theorem zero33 (w : World) : (zeroValue 33).run Tryz.prog w = .ok (.agg (dg_secA dg_secZ)) w := (zero_of_info info33).1 w
theorem dg_sizeE (w : World) : (sizeOf 5).run Tryz.prog w = .ok 1 w := by kernel_rfl

def dg_secLoad (p : Value) : Sem Next := do pure (.value (← Instr.loadAt 33 p))
def dg_secStore (p x : Value) : Sem Next := do Instr.storeAt 33 p x; pure .skip
def dg_secAlloc : Sem Next := do pure (.value (← Instr.alloc 33 true (.tuple #[])))
def dg_secBuild : Sem Next := do pure (.value (← Instr.build 33 #[]))
def dg_secBin (op : BinOp) (x y : Operand) (u v : Value) : Sem Next := do pure (.value (← (do eqGuard op 33 x y u v; binOp op 33 u v)))
section
variable (ρ : Operand → Value) (dst : Option Tmp) (ty ty' : TypeId) (pos : String) (after : Array Edge) (guard : Option (Nat × Bool))
@[go_sem ↓] theorem dg_execOp_load_sec (x : Operand) : execOp ρ { dst, op := .load 33 x, type := ty, pos, after, guard } = dg_secLoad (ρ x) := rfl
@[go_sem ↓] theorem dg_execOp_store_sec (x y : Operand) : execOp ρ { dst, op := .store 33 x y, type := ty, pos, after, guard } = dg_secStore (ρ x) (ρ y) := rfl
@[go_sem ↓] theorem dg_execOp_alloc_sec : execOp ρ { dst, op := .alloc 33, type := ty, pos, after, guard } = dg_secAlloc := rfl
@[go_sem ↓] theorem dg_execOp_build_sec : execOp ρ { dst, op := .build 33 #[], type := ty, pos, after, guard } = dg_secBuild := by
  simp [execOp, dg_secBuild]
@[go_sem ↓] theorem dg_execOp_bin_sec (op : BinOp) (x y : Operand) : execOp ρ { dst, op := .binOp op 33 x y ty', type := ty, pos, after, guard } = dg_secBin op x y (ρ x) (ρ y) := rfl
end
@[go_sem] theorem dg_run_secLoad (w : World) (n : Nat) (h : dg_rowOk w n = true) : (dg_secLoad (.pointer (some ⟨n, 0, none⟩))).run Tryz.prog w = .ok (.value (.agg (dg_rowAt w n))) w := by
  obtain ⟨t, hg, hs⟩ := dg_row_of_ok h
  simp only [dg_secLoad, Instr.loadAt, Instr.sureAddr, Sem.run_bind, Sem.run_pure, Result.andThen_ok]
  rw [run_loadVar_row w n t 33 (dg_rowAt w n) (0, 0) _ hg Tryz.underlying33 rfl (by rw [size33, hs])]; rfl
@[go_sem] theorem dg_run_secStore (w : World) (n : Nat) (s : Nat → UInt8) (h : dg_rowOk w n = true) : (dg_secStore (.pointer (some ⟨n, 0, none⟩)) (.agg (dg_secA s))).run Tryz.prog w = .ok .skip (w.setRow n (dg_secA s)) := by
  obtain ⟨t, hg, hs⟩ := dg_row_of_ok h
  simp only [dg_secStore, Instr.storeAt, Instr.sureAddr, Sem.run_bind, Sem.run_pure, Result.andThen_ok]
  rw [run_storeVar_row w n t 33 (dg_rowAt w n) (dg_secA s) hg (by rw [size33]; simp) (by simp [hs]) (dg_secA_one s)]; rfl
@[go_sem] theorem dg_run_secAlloc (w : World) : dg_secAlloc.run Tryz.prog w = .ok (.value (.pointer (some ⟨w.heap.size, 0, none⟩))) (w.alloc (.cells (dg_secA dg_secZ) 33)) := by
  simp only [dg_secAlloc, Instr.alloc, Sem.run_bind, zero33, Result.andThen_ok]
  rfl
@[go_sem] theorem dg_run_secBuild (w : World) : dg_secBuild.run Tryz.prog w = .ok (.value (.agg (dg_secA dg_secZ))) w := by
  simp only [dg_secBuild, Sem.run_bind]
  rw [run_build w 33 #[] (dg_secA dg_secZ) (by kernel_rfl)]; rfl
theorem dg_secA_cells (s : Nat → UInt8) : dg_secA s = (((List.range 32).map s).map Extern.Stop.cell).toArray := by
  apply Array.ext_getElem?
  intro i
  by_cases hi : i < 32
  · rw [dg_secA_get s i hi]; simp [hi, Extern.Stop.cell]
  · rw [Array.getElem?_eq_none (by simp; omega), Array.getElem?_eq_none (by simp; omega)]
theorem dg_beq_secL (s t : Nat → UInt8) : (((List.range 32).map s) == ((List.range 32).map t)) = dg_secEq s t := by
  rw [Bool.eq_iff_iff, dg_secEq_iff, beq_iff_eq]
  constructor
  · intro h i hi
    have := congrArg (fun l => l[i]?) h
    simpa [hi] using this
  · intro h
    exact List.map_congr_left fun i hi => h i (by simpa using hi)
end Go.Proofs.YtalnbddkhojjbaaGreatDoor
namespace Go.Proofs.YtalnbddkhojjbaaGreatDoor
open Go.RowKit

end Go.Proofs.YtalnbddkhojjbaaGreatDoor
namespace Go.Proofs.YtalnbddkhojjbaaGreatDoor
open Go.RowKit

def bytesA (l : List UInt8) : Array Value := (l.map fun b => Value.int .u8 (b.toNat : Int)).toArray
@[simp, go_sem] theorem bytesA_size (l : List UInt8) : (bytesA l).size = l.length := by simp [bytesA]
theorem bytesA_get (l : List UInt8) (i : Nat) (h : i < l.length) : (bytesA l)[i]? = some (Value.int .u8 (l[i].toNat : Int)) := by simp [bytesA, h]
def IsB (w : World) (v : Value) (l : List UInt8) : Prop :=
  (v = .slice none 0 0 ∧ l = []) ∨ ∃ x c, v = .slice (some x) l.length c ∧ ∀ i (h : i < l.length), w.cell? (x.add i) = some (Value.int .u8 (l[i].toNat : Int))
theorem IsB.lt {w : World} {x : Addr} {n c : Nat} {l : List UInt8} (h : IsB w (.slice (some x) n c) l) (h0 : l ≠ []) : x.block < w.heap.size := by
  rcases h with ⟨h, _⟩ | ⟨y, d, he, hc⟩
  · cases h
  · simp only [Value.slice.injEq, Option.some.injEq] at he
    obtain ⟨rfl, _, _⟩ := he
    have h1 : 0 < l.length := List.length_pos_iff.2 h0
    have := World.block_lt_of_cell? w _ (hc 0 h1)
    have e : (x.add 0).block = x.block := by unfold Addr.add; split <;> rfl
    rwa [e] at this
theorem Addr.add_block (x : Addr) (i : Nat) : (x.add i).block = x.block := by unfold Addr.add; split <;> rfl
theorem IsB.below {B : Nat} {w w1 : World} {v : Value} {l : List UInt8} (h : IsB w v l) (hb : Below B w w1) (hB : ∀ x n c, v = .slice (some x) n c → l ≠ [] → x.block < B) : IsB w1 v l := by
  rcases h with h | ⟨x, c, rfl, hc⟩
  · exact .inl h
  · refine .inr ⟨x, c, rfl, fun i hi => ?_⟩
    have h0 : l ≠ [] := by rintro rfl; simp at hi
    rw [hb.cell (by rw [Addr.add_block]; exact hB x _ _ rfl h0)]
    exact hc i hi
theorem IsB.kept {w w1 : World} {v : Value} {l : List UInt8} (h : IsB w v l) (hb : Below w.heap.size w w1) : IsB w1 v l :=
  h.below hb fun x n c e h0 => by subst e; exact h.lt h0
theorem IsB.str {w : World} {v : Value} {l : List UInt8} (h : IsB w v l) : (convert 24 9 v).run Tryz.prog w = .ok (.string ⟨l.toArray⟩) w := by
  rcases h with ⟨rfl, rfl⟩ | ⟨x, c, rfl, hc⟩
  · rw [run_convert_bytes_string w _ _ 5 none 0 0 Tryz.underlying24 Tryz.underlying5 Tryz.underlying9]; rfl
  · exact run_convert_bytes_back w _ _ 5 x c l Tryz.underlying24 Tryz.underlying5 Tryz.underlying9 hc
theorem info5 : (Tryz.prog.info? 5).map (fun i => (i.zero, i.size, i.bytes)) = some (some (.int .u8 0), 1, 1) := by kernel_rfl
theorem addr_add (b o i : Nat) : (⟨b, o, none⟩ : Addr).add i = ⟨b, o + i, none⟩ := by unfold Addr.add; split <;> simp_all
end Go.Proofs.YtalnbddkhojjbaaGreatDoor
namespace Go.Proofs.YtalnbddkhojjbaaGreatDoor
open Go.RowKit


structure Kw (p : World → Prop) where
  w : World
  ok : p w
end Go.Proofs.YtalnbddkhojjbaaGreatDoor
namespace Go.Proofs.YtalnbddkhojjbaaGreatDoor
open Go.RowKit


def slot (a : Act) (o : Oper) : Value := match o.dst with | some d => a.eval (.tmp d) | none => undef
def Fx (c : Value) : Value → World → Prop := fun v _ => v = c
def outB (l : List Oper) (t : Nat) : Bool := l.all fun o => !(o.dst == some t)
def dep1 (l : List Oper) (φ : List (Value → World → Prop)) (a : Act) (w : World) (j : Nat) : Prop :=
  match l[j]?, φ[j]? with
  | some o, some f => f (slot a o) w
  | _, _ => True
def depsOf (l : List Oper) (φ : List (Value → World → Prop)) (a : Act) (w : World) : List Edge → Prop
  | [] => True
  | e :: r => (Region.binds .any e = true → dep1 l φ a w e.on) ∧ depsOf l φ a w r
def Duty (l : List Oper) (φ : List (Value → World → Prop)) (W : World) (a0 : Act) (Q : Exit → Act → World → Prop) (o : Oper) (f : Value → World → Prop) : Prop :=
  ∀ a w, Below W.heap.size W w → (∀ t, outB l t = true → a.eval (.tmp t) = a0.eval (.tmp t)) → depsOf l φ a w o.after.toList →
    (Region.wanted o (yielded l.toArray a.tmps) = true → o.wp Tryz.prog a w (fun a' w' => ∃ v, a' = a.put o.dst v ∧ f v w' ∧ Below w.heap.size w w') Q) ∧
    (Region.wanted o (yielded l.toArray a.tmps) = false → f undef w)
def Duties (l : List Oper) (φ : List (Value → World → Prop)) (W : World) (a0 : Act) (Q : Exit → Act → World → Prop) : List Oper → List (Value → World → Prop) → Prop
  | o :: r, f :: g => Duty l φ W a0 Q o f ∧ Duties l φ W a0 Q r g
  | _, _ => True
def puts (vs : Nat → Value) : List Oper → Nat → Act → Act
  | [], _, a => a
  | o :: r, k, a => puts vs r (k + 1) (a.put o.dst (vs k))
def owed (vs : Nat → Value) (w : World) : List (Value → World → Prop) → Nat → Prop
  | [], _ => True
  | f :: g, k => f (vs k) w ∧ owed vs w g (k + 1)
def relyB (l : List Oper) (m : Nat) : Bool :=
  (List.range l.length).all (fun i => (List.range l.length).all fun j => i == j || (match l[i]?, l[j]? with | some a, some b => a.dst.isNone || !(a.dst == b.dst) | _, _ => true)) &&
  (List.range l.length).all (fun i => match l[i]? with | some o => o.after.all fun e => decide (e.on < i) | none => true) &&
  decide (m ≤ l.length) && decide (l.length ≤ m + 1) &&
  (match l[m]? with | some o => (List.range m).all (fun j => o.after.toList.any fun e => e.on == j && Region.binds .any e) | none => true)

def dstB (l : List Oper) (n : Nat) : Bool := l.all fun o => match o.dst with | some d => decide (d < n) | none => false
theorem duties_get {l : List Oper} {φ : List (Value → World → Prop)} {W : World} {a0 : Act} {Q : Exit → Act → World → Prop} : ∀ {r : List Oper} {g : List (Value → World → Prop)}, Duties l φ W a0 Q r g →
    ∀ (i : Nat) o f, r[i]? = some o → g[i]? = some f → Duty l φ W a0 Q o f
  | [], _, _, _, _, _, h, _ => by simp at h
  | _ :: _, [], _, _, _, _, _, h => by simp at h
  | o :: r, f :: g, h, 0, o', f', h1, h2 => by simp at h1 h2; subst h1; subst h2; exact h.1
  | o :: r, f :: g, h, i + 1, o', f', h1, h2 => duties_get h.2 i o' f' (by simpa using h1) (by simpa using h2)
theorem depsOf_of {l : List Oper} {φ : List (Value → World → Prop)} {a : Act} {w : World} : ∀ (es : List Edge), (∀ e ∈ es, Region.binds .any e = true → dep1 l φ a w e.on) → depsOf l φ a w es
  | [], _ => trivial
  | e :: r, h => ⟨h e (by simp), depsOf_of r fun e' he => h e' (by simp [he])⟩
theorem owed_of {vs : Nat → Value} {w : World} : ∀ (φ : List (Value → World → Prop)) (k : Nat), (∀ (i : Nat) f, φ[i]? = some f → f (vs (k + i)) w) → owed vs w φ k
  | [], _, _ => trivial
  | f :: g, k, h => ⟨h 0 f rfl, owed_of g (k + 1) fun i f' hf => by rw [Nat.add_assoc, Nat.add_comm 1 i]; exact h (i + 1) f' (by simpa using hf)⟩
theorem eval_tmp (a : Act) (t : Nat) : a.eval (.tmp t) = a.tmps.getD t undef := rfl
theorem size_put (a : Act) (d : Option Tmp) (v : Value) : (a.put d v).tmps.size = a.tmps.size := by cases d <;> simp [Act.put]
theorem defers_put (a : Act) (d : Option Tmp) (v : Value) : (a.put d v).defers = a.defers := by cases d <;> simp [Act.put]
theorem puts_eq (vs : Nat → Value) (a : Act) : ∀ (l : List Oper) (k : Nat) (a0 : Act), a.defers = a0.defers → a.tmps.size = a0.tmps.size →
    (∀ t, outB l t = true → a.eval (.tmp t) = a0.eval (.tmp t)) → (∀ (i : Nat) o d, l[i]? = some o → o.dst = some d → vs (k + i) = a.eval (.tmp d)) → a = puts vs l k a0
  | [], _, a0, hd, hs, ho, _ => by
    obtain ⟨t, d⟩ := a
    obtain ⟨t0, d0⟩ := a0
    simp only at hd hs
    subst hd
    have : t = t0 := by
      apply Array.ext hs
      intro i h1 h2
      have := ho i (by simp [outB])
      simpa [eval_tmp, h1, h2] using this
    rw [this]; rfl
  | o :: r, k, a0, hd, hs, ho, hv => by
    refine puts_eq vs a r (k + 1) (a0.put o.dst (vs k)) (by rw [defers_put]; exact hd) (by rw [size_put]; exact hs) (fun t ht => ?_) (fun i o' d h1 h2 => by
      rw [Nat.add_assoc, Nat.add_comm 1 i]; exact hv (i + 1) o' d (by simpa using h1) h2)
    by_cases h : o.dst = some t
    · have h1 := hv 0 o t rfl h
      rw [h, Nat.add_zero] at *
      rw [h1]
      by_cases hlt : t < a0.tmps.size
      · simp [eval_tmp, Act.put, hlt]
      · simp [eval_tmp, Act.put, hlt, hs]
    · rw [Act.eval_put (x := .tmp t) (fun d hd' he => h (by rw [hd']; cases he; rfl))]
      exact ho t (by simp only [outB, List.all_cons, Bool.and_eq_true] at ht ⊢; exact ⟨by simp [h], ht⟩)
theorem filter_lt (f g : Nat → Bool) (i : Nat) (hfi : f i = true) (hgi : g i = false) (hle : ∀ j, g j = true → f j = true) : ∀ l : List Nat, i ∈ l → (l.filter g).length < (l.filter f).length
  | [], h => by cases h
  | x :: l, h => by
    have hmono : (l.filter g).length ≤ (l.filter f).length := by
      clear h
      induction l with
      | nil => simp
      | cons y l ih =>
        by_cases hy : g y = true
        · simp [hy, hle y hy]; omega
        · simp only [List.filter_cons, hy]
          by_cases hy' : f y = true <;> simp [hy'] <;> omega
    by_cases hx : x = i
    · subst hx; simp [hfi, hgi]; omega
    · have ih := filter_lt f g i hfi hgi hle l (by simpa [Ne.symm hx] using h)
      by_cases hy : g x = true
      · simp [hy, hle x hy]; omega
      · simp only [List.filter_cons, hy]
        by_cases hy' : f x = true <;> simp [hy'] <;> omega

def RI (l : List Oper) (φ : List (Value → World → Prop)) (W : World) (a0 : Act) (listed : Array Bool) (a : Act) (w : World) : Prop :=
  Below W.heap.size W w ∧ a.defers = a0.defers ∧ a.tmps.size = a0.tmps.size ∧ (∀ t, outB (l.take φ.length) t = true → a.eval (.tmp t) = a0.eval (.tmp t)) ∧
  ∀ (i : Nat) o f, l[i]? = some o → φ[i]? = some f → listed.getD i false = true → f (slot a o) w
theorem slot_put_ne {a : Act} {o o' : Oper} (v : Value) (h : o'.dst.isNone = true ∨ o'.dst ≠ o.dst) : slot (a.put o.dst v) o' = slot a o' := by
  unfold slot
  cases hd : o'.dst with
  | none => rfl
  | some d => exact Act.eval_put (x := .tmp d) (fun e he hc => by cases hc; rcases h with h | h <;> simp [hd, he] at h)
theorem allListed {l : List Oper} (hB : ∀ (i : Nat) o, l[i]? = some o → ∀ e ∈ o.after, e.on < i) {listed : Array Bool} (hsz : listed.size = l.length) (hr : Region.ready .any l.toArray listed = []) :
    ∀ i, i < l.length → listed.getD i false = true := by
  intro i
  induction i using Nat.strongRecOn with
  | _ i ih =>
    intro hi
    cases hl : listed.getD i false with
    | true => rfl
    | false =>
      have hj : i ∈ Region.ready .any l.toArray listed := by
        rw [mem_ready]
        refine ⟨?_, l[i], by simp [hi], fun e he _ => ih e.on (hB i _ (List.getElem?_eq_getElem hi) e he) ?_⟩
        · have : i < listed.size := by omega
          simpa [this] using hl
        · have := hB i _ (List.getElem?_eq_getElem hi) e he; omega
      rw [hr] at hj; cases hj
theorem ready_nil {l : List Oper} {listed : Array Bool} (h : ∀ i, i < l.length → listed.getD i false = true) : Region.ready .any l.toArray listed = [] := by
  apply List.eq_nil_iff_forall_not_mem.2
  intro i hi
  rw [mem_ready] at hi
  obtain ⟨h0, o, ho, _⟩ := hi
  have hlt : i < l.length := by have := (Array.getElem?_eq_some_iff.1 ho).1; simpa using this
  have h1 := h i hlt
  by_cases hs : i < listed.size
  · simp [hs] at h0 h1; rw [h0] at h1; cases h1
  · simp [hs] at h1
theorem wpAny_end {l : List Oper} {Q : Exit → Act → World → Prop} {listed : Array Bool} {a : Act} {w : World} (h : ∀ i, i < l.length → listed.getD i false = true) (hq : Q .normal a w) : ∀ fuel, wpAny Tryz.prog .any l.toArray Q fuel listed a w
  | 0 => ⟨ready_nil h, hq⟩
  | fuel + 1 => ⟨fun _ => hq, by rw [ready_nil h]; simp⟩
theorem relyB_spec {l : List Oper} {m : Nat} (h : relyB l m = true) :
    (∀ (i j : Nat) a b, l[i]? = some a → l[j]? = some b → i ≠ j → a.dst.isNone = true ∨ a.dst ≠ b.dst) ∧ (∀ (i : Nat) o, l[i]? = some o → ∀ e ∈ o.after, e.on < i) ∧ m ≤ l.length ∧ l.length ≤ m + 1 ∧
    (∀ o, l[m]? = some o → ∀ j, j < m → ∃ e ∈ o.after, e.on = j ∧ Region.binds .any e = true) := by
  simp only [relyB, Bool.and_eq_true, List.all_eq_true, List.mem_range, decide_eq_true_eq] at h
  obtain ⟨⟨⟨⟨h1, h2⟩, h3⟩, h4⟩, h5⟩ := h
  refine ⟨fun i j a b hi hj hne => ?_, fun i o hi e he => ?_, h3, h4, fun o ho j hj => ?_⟩
  · have := h1 i (List.getElem?_eq_some_iff.1 hi).1 j (List.getElem?_eq_some_iff.1 hj).1
    simp only [hi, hj, Bool.or_eq_true, beq_iff_eq, Bool.not_eq_true', beq_eq_false_iff_ne] at this
    rcases this with h | h | h
    · exact absurd h hne
    · exact .inl h
    · exact .inr h
  · have := h2 i (List.getElem?_eq_some_iff.1 hi).1
    simp only [hi, Array.all_eq_true_iff_forall_mem, decide_eq_true_eq] at this
    exact this e he
  · simp only [ho, List.all_eq_true, List.mem_range, List.any_eq_true, Bool.and_eq_true, beq_iff_eq] at h5
    obtain ⟨e, he, h6, h7⟩ := h5 j hj
    exact ⟨e, by simpa using he, h6, h7⟩
theorem rely_any {l : List Oper} {φ : List (Value → World → Prop)} {W : World} {a0 : Act} {Q : Exit → Act → World → Prop} (hB : relyB l φ.length = true) (hD : dstB (l.take φ.length) a0.tmps.size = true)
    (hmono : ∀ f ∈ φ, ∀ v w w', f v w → Below w.heap.size w w' → f v w') (hstep : Duties l φ W a0 Q l φ)
    (hend : ∀ vs w, Below W.heap.size W w → owed vs w φ 0 → wpList Tryz.prog l.toArray Q (l.drop φ.length) (puts vs (l.take φ.length) 0 a0) w) :
    ∀ (fuel : Nat) (listed : Array Bool) (a : Act) (w : World), ((List.range l.length).filter fun j => !listed.getD j false).length ≤ fuel → listed.size = l.length →
      (φ.length < l.length → listed.getD φ.length false = false) → RI l φ W a0 listed a w → wpAny Tryz.prog .any l.toArray Q fuel listed a w := by
  obtain ⟨hne, hlt, hm1, hm2, htail⟩ := relyB_spec hB
  have fin : ∀ (listed : Array Bool) (a : Act) (w : World), (∀ i, i < φ.length → listed.getD i false = true) → RI l φ W a0 listed a w → wpList Tryz.prog l.toArray Q (l.drop φ.length) a w := by
    intro listed a w hall hI
    obtain ⟨hb, hd, hs, hout, hf⟩ := hI
    have hv : ∀ (i : Nat) o f, l[i]? = some o → φ[i]? = some f → f (slot a o) w := fun i o f h1 h2 => hf i o f h1 h2 (hall i (List.getElem?_eq_some_iff.1 h2).1)
    have e := puts_eq (fun i => match l[i]? with | some o => slot a o | none => undef) a (l.take φ.length) 0 a0 hd hs hout (fun i o d h1 h2 => by
      have h1' : l[i]? = some o := by rw [List.getElem?_take] at h1; split at h1; exact h1; cases h1
      simp [h1', slot, h2])
    rw [e]
    refine hend _ w hb (owed_of φ 0 fun i f hi => ?_)
    have hi' : i < l.length := by have := (List.getElem?_eq_some_iff.1 hi).1; omega
    simp only [Nat.zero_add, List.getElem?_eq_getElem hi']
    exact hv i _ f (List.getElem?_eq_getElem hi') hi
  have none_left : ∀ (listed : Array Bool) (a : Act) (w : World), (∀ i, i < l.length → listed.getD i false = true) → (φ.length < l.length → listed.getD φ.length false = false) → RI l φ W a0 listed a w → Q .normal a w := by
    intro listed a w hall ht hI
    have e : φ.length = l.length := by
      rcases Nat.lt_or_ge φ.length l.length with h | h
      · have := ht h; rw [hall _ h] at this; cases this
      · omega
    have := fin listed a w (fun i hi => hall i (by omega)) hI
    rw [e, List.drop_length] at this
    exact this
  intro fuel
  induction fuel with
  | zero =>
    intro listed a w hc hsz ht hI
    have hall : ∀ i, i < l.length → listed.getD i false = true := fun i hi => by
      cases hl : listed.getD i false with
      | true => rfl
      | false =>
        have : i ∈ (List.range l.length).filter fun j => !listed.getD j false := by
          rw [List.mem_filter, hl]; simp [hi]
        have := List.length_pos_of_mem this; omega
    exact ⟨ready_nil hall, none_left listed a w hall ht hI⟩
  | succ fuel ih =>
    intro listed a w hc hsz ht hI
    refine ⟨fun hr => none_left listed a w (allListed hlt hsz hr) ht hI, fun i hi => ?_⟩
    rw [mem_ready] at hi
    obtain ⟨hun, o, ho, hdep⟩ := hi
    have ho' : l[i]? = some o := by simpa using ho
    have hil : i < l.length := (List.getElem?_eq_some_iff.1 ho').1
    have hif : listed.getD i false = false := by
      have : i < listed.size := by omega
      simpa [this] using hun
    have hset : ∀ j, j ≠ i → (listed.setIfInBounds i true).getD j false = listed.getD j false := fun j hj => getD_set_ne false (Ne.symm hj)
    have hseti : (listed.setIfInBounds i true).getD i false = true := by
      have : i < listed.size := by omega
      simp [this]
    rcases Nat.lt_or_ge i φ.length with him | him
    · -- a duty
      have hfi : φ[i]? = some φ[i] := List.getElem?_eq_getElem him
      have hcnt : ((List.range l.length).filter fun j => !(listed.setIfInBounds i true).getD j false).length ≤ fuel := by
        have := filter_lt (fun j => !listed.getD j false) (fun j => !(listed.setIfInBounds i true).getD j false) i (by simp only [hif]; rfl) (by simp only [hseti]; rfl) (fun j hj => by
          by_cases hji : j = i
          · subst hji; simp only [hif]; rfl
          · simp only [hset j hji] at hj; exact hj) (List.range l.length) (by simpa using hil)
        omega
      have htl : φ.length < l.length → (listed.setIfInBounds i true).getD φ.length false = false := fun h => by rw [hset _ (by omega)]; exact ht h
      obtain ⟨hb, hd, hs, hout, hf⟩ := hI
      have hdeps : depsOf l φ a w o.after.toList := depsOf_of _ fun e he hbd => by
        unfold dep1
        split
        · rename_i oj f h1 h2
          exact hf e.on oj f h1 h2 (hdep e (by simpa using he) hbd)
        · trivial
      have hsub : ∀ t, outB l t = true → outB (l.take φ.length) t = true := fun t h => by
        simp only [outB, List.all_eq_true] at h ⊢
        exact fun x hx => h x (List.mem_of_mem_take hx)
      obtain ⟨hw1, hw2⟩ := duties_get hstep i o φ[i] ho' hfi a w hb (fun t h => hout t (hsub t h)) hdeps
      have hnew : ∀ v w', φ[i] v w' → Below w.heap.size w w' → RI l φ W a0 (listed.setIfInBounds i true) (a.put o.dst v) w' := fun v w' hφ hg => by
        refine ⟨hb.trans (hg.mono hb.size), by rw [defers_put]; exact hd, by rw [size_put]; exact hs, fun t h => ?_, fun j oj f h1 h2 h3 => ?_⟩
        · rw [Act.eval_put (x := .tmp t) (fun d hd' he => by
            cases he
            simp only [outB, List.all_eq_true] at h
            have hmem : o ∈ l.take φ.length := by
              rw [List.mem_iff_getElem?]; exact ⟨i, by rw [List.getElem?_take, if_pos him]; exact ho'⟩
            have := h o hmem
            simp [hd'] at this)]
          exact hout t h
        · by_cases hji : j = i
          · subst hji
            rw [ho'] at h1; cases h1
            rw [hfi] at h2; cases h2
            have hmem : o ∈ l.take φ.length := by
              rw [List.mem_iff_getElem?]; exact ⟨j, by rw [List.getElem?_take, if_pos him]; exact ho'⟩
            simp only [dstB, List.all_eq_true] at hD
            have hd1 := hD o hmem
            unfold slot
            cases hdo : o.dst with
            | none => simp [hdo] at hd1
            | some d =>
              have hd2 : d < a0.tmps.size := by simpa [hdo] using hd1
              have e : (a.put (some d) v).eval (.tmp d) = v := by
                have : d < a.tmps.size := by rw [hs]; exact hd2
                simp [eval_tmp, Act.put, this]
              simp only [e]
              exact hφ
          · rw [slot_put_ne v (hne j i oj o h1 ho' hji)]
            exact hmono f (List.mem_of_getElem? h2) _ _ _ (hf j oj f h1 h2 (by rw [← hset j hji]; exact h3)) hg
      unfold wpOp
      simp only [List.getElem?_toArray, ho']
      split
      · rename_i hw
        refine .inl (Oper.wp_mono (fun a' w' h => ?_) (hw1 hw))
        obtain ⟨v, rfl, hφ, hg⟩ := h
        exact ih _ _ _ hcnt (by simpa using hsz) htl (hnew v w' hφ hg)
      · rename_i hw
        exact ih _ _ _ hcnt (by simpa using hsz) htl (hnew undef w (hw2 (by simpa using hw)) (Below.refl _ _))
    · -- the last one
      have hil' : i = φ.length := by omega
      have hall : ∀ j, j < φ.length → listed.getD j false = true := fun j hj => by
        obtain ⟨e, he, h1, h2⟩ := htail o (by rw [← hil']; exact ho') j hj
        rw [← h1]; exact hdep e he h2
      have hx := fin listed a w hall hI
      have hdrop : l.drop φ.length = [o] := by
        rw [← hil', List.drop_eq_getElem_cons hil, List.drop_of_length_le (by omega)]
        have := ho'; rw [List.getElem?_eq_getElem hil] at this; cases this; rfl
      rw [hdrop] at hx
      have hl2 : ∀ j, j < l.length → (listed.setIfInBounds i true).getD j false = true := fun j hj => by
        by_cases hji : j = i
        · subst hji; exact hseti
        · rw [hset j hji]; exact hall j (by omega)
      unfold wpOp
      simp only [List.getElem?_toArray, ho']
      unfold wpList at hx
      split
      · rename_i hw
        simp only [hw, if_true] at hx
        exact hx.imp (Oper.wp_mono fun a' w' h => wpAny_end hl2 h fuel) id
      · rename_i hw
        simp only [hw] at hx
        exact wpAny_end hl2 hx fuel

theorem wp_region_rely {l : List Oper} {id : Nat} {W : World} {a0 : Act} {Q : Exit → Act → World → Prop} (φ : List (Value → World → Prop)) (hB : relyB l φ.length = true) (hD : dstB (l.take φ.length) a0.tmps.size = true)
    (hmono : ∀ f ∈ φ, ∀ v w w', f v w → Below w.heap.size w w' → f v w') (hstep : Duties l φ W a0 Q l φ)
    (hend : ∀ vs w, Below W.heap.size W w → owed vs w φ 0 → wpList Tryz.prog l.toArray Q (l.drop φ.length) (puts vs (l.take φ.length) 0 a0) w) : (Code.region id l.toArray true).wp Tryz.prog Q a0 W := by
  refine wp_region_any (by kernel_rfl) (rely_any hB hD hmono hstep hend _ _ _ _ ?_ (by simp) (fun h => by simp [h]) ⟨(Below.refl _ _).drew, rfl, rfl, fun _ _ => rfl, fun i o f _ _ h => by
    exfalso
    rw [Array.getD_eq_getD_getElem?, Array.getElem?_replicate] at h
    split at h <;> simp at h⟩)
  have := List.length_filter_le (fun j => !(Array.replicate l.toArray.size false).getD j false) (List.range l.length)
  simpa using this
theorem Fx_mono (c v : Value) (w w' : World) (h : Fx c v w) (_ : Below w.heap.size w w') : Fx c v w' := h
def slotR (ρ : Operand → Value) (o : Oper) : Value := match o.dst with | some d => ρ (.tmp d) | none => undef
def depR (l : List Oper) (φ : List (Value → World → Prop)) (ρ : Operand → Value) (x : World) (j : Nat) : Prop :=
  match l[j]?, φ[j]? with
  | some o, some f => f (slotR ρ o) x
  | _, _ => True
def depsR (l : List Oper) (φ : List (Value → World → Prop)) (ρ : Operand → Value) (x : World) : List Edge → Prop
  | [] => True
  | e :: r => (Region.binds .any e = true → depR l φ ρ x e.on) ∧ depsR l φ ρ x r
def yieldR (l : List Oper) (ρ : Operand → Value) (j : Nat) : Option Bool :=
  match l[j]? with
  | some o => match slotR ρ o with | .bool b => some b | _ => none
  | none => none
def guardR (l : List Oper) (ρ : Operand → Value) (o : Oper) (A B : Prop) : Prop :=
  match o.guard with
  | none => A
  | some (j, b) => (yieldR l ρ j = some b → A) ∧ (yieldR l ρ j ≠ some b → B)
def okUpon (f : Value → World → Prop) (x : World) : Result Next → Prop
  | .ok (.value v) x' => f v x' ∧ Below x.heap.size x x'
  | .ok (.enter fn args) x' => x' = x ∧ Calls Tryz.prog fn args x (fun e w' => ∃ v, e = .returned v ∧ f v w' ∧ Below x.heap.size x w')
  | _ => False
@[go_sem] theorem okUpon_value (f : Value → World → Prop) (x x' : World) (v : Value) : okUpon f x (.ok (.value v) x') = (f v x' ∧ Below x.heap.size x x') := rfl
@[go_sem] theorem okUpon_enter (f : Value → World → Prop) (x x' : World) (fn : FuncId) (args : Array Value) :
    okUpon f x (.ok (.enter fn args) x') = (x' = x ∧ Calls Tryz.prog fn args x (fun e w' => ∃ v, e = .returned v ∧ f v w' ∧ Below x.heap.size x w')) := rfl
@[go_sem] theorem Fx_self (c : Value) (x : World) : Fx c c x = True := eq_true rfl
@[go_sem] theorem below_self (x : World) : Below x.heap.size x x = True := eq_true (Below.refl _ _)
def DutyR (l : List Oper) (φ : List (Value → World → Prop)) (W : World) (a0 : Act) (o : Oper) (f : Value → World → Prop) : Prop :=
  ∀ (ρ : Operand → Value) (x : World), Below W.heap.size W x → (∀ v, ρ (.const v) = v) → (∀ g, ρ (.global g) = .pointer (some ⟨g, 0, none⟩)) → (∀ k, ρ (.func k) = .func (.func k) #[] #[]) →
    (∀ t, outB l t = true → ρ (.tmp t) = a0.eval (.tmp t)) → depsR l φ ρ x o.after.toList → guardR l ρ o (okUpon f x ((execOp ρ o).run Tryz.prog x)) (f undef x)
def DutiesR (l : List Oper) (φ : List (Value → World → Prop)) (W : World) (a0 : Act) : List Oper → List (Value → World → Prop) → Prop
  | o :: r, f :: g => DutyR l φ W a0 o f ∧ DutiesR l φ W a0 r g
  | _, _ => True
theorem yieldR_eq (l : List Oper) (a : Act) (j : Nat) : yielded l.toArray a.tmps j = yieldR l a.eval j := by
  unfold yielded yieldR slotR
  simp only [List.getElem?_toArray]
  cases h : l[j]? with
  | none => rfl
  | some o =>
    simp only [Option.bind_some]
    cases hd : o.dst with
    | none => rfl
    | some d =>
      simp only [Option.bind_some, eval_tmp, Array.getD_eq_getD_getElem?]
      cases hq : a.tmps[d]? with
      | none => rfl
      | some x => cases x <;> rfl
theorem depsR_of {l : List Oper} {φ : List (Value → World → Prop)} {a : Act} {w : World} : ∀ es : List Edge, depsOf l φ a w es → depsR l φ a.eval w es
  | [], _ => trivial
  | _ :: r, h => ⟨fun hb => h.1 hb, depsR_of r h.2⟩
theorem duty_of {l : List Oper} {φ : List (Value → World → Prop)} {W : World} {a0 : Act} {o : Oper} {f : Value → World → Prop} {Q : Exit → Act → World → Prop} (h : DutyR l φ W a0 o f) : Duty l φ W a0 Q o f := by
  intro a w hb ho hd
  have hx := h a.eval w hb (fun _ => rfl) (fun _ => rfl) (fun _ => rfl) ho (depsR_of _ hd)
  have run : okUpon f w ((execOp a.eval o).run Tryz.prog w) → o.wp Tryz.prog a w (fun a' w' => ∃ v, a' = a.put o.dst v ∧ f v w' ∧ Below w.heap.size w w') Q := by
    intro hk
    unfold Oper.wp
    generalize (execOp a.eval o).run Tryz.prog w = r at hk
    cases r with
    | ok n x' =>
      cases n <;> simp only [okUpon] at hk
      case value v => exact ⟨v, rfl, hk.1, hk.2⟩
      case enter fn args =>
        obtain ⟨rfl, hc⟩ := hk
        exact hc.mono fun e w' ⟨v, he, hf, hb⟩ => by subst he; exact ⟨v, rfl, hf, hb⟩
    | halt e x' => simp only [okUpon] at hk
  unfold guardR at hx
  unfold Region.wanted
  cases hg : o.guard with
  | none => simp only [hg] at hx ⊢; exact ⟨fun _ => run hx, fun h => by cases h⟩
  | some q =>
    obtain ⟨j, b⟩ := q
    simp only [hg] at hx ⊢
    rw [yieldR_eq]
    exact ⟨fun h => run (hx.1 (by simpa using h)), fun h => hx.2 (by simpa using h)⟩
theorem duties_of {l : List Oper} {φ : List (Value → World → Prop)} {W : World} {a0 : Act} {Q : Exit → Act → World → Prop} : ∀ (r : List Oper) (g : List (Value → World → Prop)), DutiesR l φ W a0 r g → Duties l φ W a0 Q r g
  | [], _, _ => by unfold Duties; trivial
  | _ :: _, [], _ => by unfold Duties; trivial
  | _ :: r, _ :: g, h => ⟨duty_of h.1, duties_of r g h.2⟩
theorem wp_rely {l : List Oper} {id : Nat} {W : World} {a0 : Act} {Q : Exit → Act → World → Prop} (φ : List (Value → World → Prop)) (hB : relyB l φ.length = true) (hD : dstB (l.take φ.length) a0.tmps.size = true)
    (hmono : ∀ f ∈ φ, ∀ v w w', f v w → Below w.heap.size w w' → f v w') (hstep : DutiesR l φ W a0 l φ)
    (hend : ∀ vs w, Below W.heap.size W w → owed vs w φ 0 → wpList Tryz.prog l.toArray Q (l.drop φ.length) (puts vs (l.take φ.length) 0 a0) w) : (Code.region id l.toArray true).wp Tryz.prog Q a0 W :=
  wp_region_rely φ hB hD hmono (duties_of l φ hstep) hend
theorem all_cons {p : (Value → World → Prop) → Prop} {f : Value → World → Prop} {r : List (Value → World → Prop)} (h : p f) (hr : ∀ g ∈ r, p g) : ∀ g ∈ f :: r, p g := fun g hg => by
  rcases List.mem_cons.1 hg with rfl | hg
  · exact h
  · exact hr g hg
theorem all_nil {p : (Value → World → Prop) → Prop} : ∀ g ∈ ([] : List (Value → World → Prop)), p g := fun g hg => by cases hg

def asg (vs : Nat → Value) : List Oper → Nat → List Oper
  | [], _ => []
  | o :: r, k => { dst := o.dst, op := .assign (.const (vs k)), type := 0, pos := "", after := #[], guard := none } :: asg vs r (k + 1)
theorem wpList_asg {ops : Array Oper} {Q : Exit → Act → World → Prop} {w : World} {t : List Oper} (vs : Nat → Value) : ∀ (l : List Oper) (k : Nat) (a : Act), wpList Tryz.prog ops Q (asg vs l k ++ t) a w → wpList Tryz.prog ops Q t (puts vs l k a) w
  | [], _, _, h => h
  | o :: r, k, a, h => by
    refine wpList_asg vs r (k + 1) (a.put o.dst (vs k)) ?_
    simp only [asg, List.cons_append] at h
    unfold wpList at h
    rw [if_pos (show Region.wanted _ _ = true from rfl)] at h
    rcases h with h | ⟨h, _⟩
    · exact h
    · exfalso
      have h1 : noRoomEvent ∈ (#[] : Array _) := h.1
      simp at h1
theorem wp_relies {l : List Oper} {id : Nat} {W : World} {a0 : Act} {Q : Exit → Act → World → Prop} (φ : List (Value → World → Prop)) (hB : relyB l φ.length = true) (hD : dstB (l.take φ.length) a0.tmps.size = true)
    (hmono : ∀ f ∈ φ, ∀ v w w', f v w → Below w.heap.size w w' → f v w') (hstep : DutiesR l φ W a0 l φ)
    (hend : ∀ vs w, Below W.heap.size W w → owed vs w φ 0 → wpList Tryz.prog l.toArray Q (asg vs (l.take φ.length) 0 ++ l.drop φ.length) a0 w) : (Code.region id l.toArray true).wp Tryz.prog Q a0 W :=
  wp_rely φ hB hD hmono hstep fun vs w h1 h2 => wpList_asg vs _ _ _ (hend vs w h1 h2)

end Go.Proofs.YtalnbddkhojjbaaGreatDoor
namespace Go.Proofs.YtalnbddkhojjbaaGreatDoor
open Go.RowKit

theorem u8_at (n : Nat) (h : n < 256) : (u8 n).toNat = n := by unfold u8; rw [UInt8.toNat_ofNat']; omega
def vR (v : Nat) : Prop := v ≤ 1114111 ∧ ¬ (55296 ≤ v ∧ v ≤ 57343)
theorem rn_b (l : List UInt8) (b : Nat) (h0 : l.length ≠ 0) (hb : (lB l 0).toNat = b) : rn l = (if b < 128 then (b, 1) else if 192 ≤ b ∧ b < 224 then rnN l 2 (b - 192) else if 224 ≤ b ∧ b < 240 then rnN l 3 (b - 224) else if 240 ≤ b ∧ b < 248 then rnN l 4 (b - 240) else (0, 0)) := by
  subst hb; unfold rn; rw [if_neg h0]
theorem cv_step (l : List UInt8) (v0 k v b : Nat) (h : cvR l v0 k = some v) (hb : (lB l (k + 1)).toNat = 128 + b) (h64 : b < 64) : cvR l v0 (k + 1) = some (64 * v + b) := by
  rw [cvR, h]
  simp only
  have hc : isC (lB l (k + 1)) = true := by unfold isC; rw [hb, decide_eq_true]; omega
  rw [hc, if_pos rfl, hb, show 64 * v + (128 + b) - 128 = 64 * v + b by omega]
theorem rnN_some (l : List UInt8) (n v0 v : Nat) (hl : ¬ l.length < n) (hc : cvR l v0 (n - 1) = some v) (ok : okR n v = true) : rnN l n v0 = (v, n) := by
  unfold rnN
  rw [if_neg hl, hc]
  simp only [ok, if_true]
theorem rn_enc (v : Nat) (hv : vR v) (r : List UInt8) : rn (enc v ++ r) = (v, (enc v).length) := by
  obtain ⟨h1, h2⟩ := hv
  unfold enc
  by_cases a1 : v < 128
  · rw [if_pos a1]
    rw [rn_b ([u8 v] ++ r) v (by simp) (show (u8 v).toNat = v from u8_at v (by omega)), if_pos a1]; rfl
  by_cases a2 : v < 2048
  · rw [if_neg a1, if_pos a2]
    rw [rn_b ([u8 (192 + v / 64), u8 (128 + v % 64)] ++ r) (192 + v / 64) (by simp) (show (u8 (192 + v / 64)).toNat = 192 + v / 64 from u8_at _ (by omega)), if_neg (by omega), if_pos (by omega)]
    have c1 := cv_step ([u8 (192 + v / 64), u8 (128 + v % 64)] ++ r) (192 + v / 64 - 192) 0 _ (v % 64) rfl (show (u8 (128 + v % 64)).toNat = _ from u8_at _ (by omega)) (by omega)
    rw [show 64 * (192 + v / 64 - 192) + v % 64 = v by omega] at c1
    exact rnN_some _ 2 _ v (by simp) c1 (by unfold okR leastR; rw [decide_eq_true]; simp; omega)
  by_cases a3 : v < 65536
  · rw [if_neg a1, if_neg a2, if_pos a3]
    rw [rn_b ([u8 (224 + v / 4096), u8 (128 + v / 64 % 64), u8 (128 + v % 64)] ++ r) (224 + v / 4096) (by simp) (show (u8 (224 + v / 4096)).toNat = 224 + v / 4096 from u8_at _ (by omega)), if_neg (by omega), if_neg (by omega), if_pos (by omega)]
    have c1 := cv_step ([u8 (224 + v / 4096), u8 (128 + v / 64 % 64), u8 (128 + v % 64)] ++ r) (224 + v / 4096 - 224) 0 _ (v / 64 % 64) rfl (show (u8 (128 + v / 64 % 64)).toNat = _ from u8_at _ (by omega)) (by omega)
    have c2 := cv_step _ _ 1 _ (v % 64) c1 (show (u8 (128 + v % 64)).toNat = _ from u8_at _ (by omega)) (by omega)
    rw [show 64 * (64 * (224 + v / 4096 - 224) + v / 64 % 64) + v % 64 = v by omega] at c2
    exact rnN_some _ 3 _ v (by simp) c2 (by unfold okR leastR; rw [decide_eq_true]; simp; omega)
  · rw [if_neg a1, if_neg a2, if_neg a3]
    rw [rn_b ([u8 (240 + v / 262144), u8 (128 + v / 4096 % 64), u8 (128 + v / 64 % 64), u8 (128 + v % 64)] ++ r) (240 + v / 262144) (by simp) (show (u8 (240 + v / 262144)).toNat = 240 + v / 262144 from u8_at _ (by omega)), if_neg (by omega), if_neg (by omega), if_neg (by omega), if_pos (by omega)]
    have c1 := cv_step ([u8 (240 + v / 262144), u8 (128 + v / 4096 % 64), u8 (128 + v / 64 % 64), u8 (128 + v % 64)] ++ r) (240 + v / 262144 - 240) 0 _ (v / 4096 % 64) rfl (show (u8 (128 + v / 4096 % 64)).toNat = _ from u8_at _ (by omega)) (by omega)
    have c2 := cv_step _ _ 1 _ (v / 64 % 64) c1 (show (u8 (128 + v / 64 % 64)).toNat = _ from u8_at _ (by omega)) (by omega)
    have c3 := cv_step _ _ 2 _ (v % 64) c2 (show (u8 (128 + v % 64)).toNat = _ from u8_at _ (by omega)) (by omega)
    rw [show 64 * (64 * (64 * (240 + v / 262144 - 240) + v / 4096 % 64) + v / 64 % 64) + v % 64 = v by omega] at c3
    exact rnN_some _ 4 _ v (by simp) c3 (by unfold okR leastR; rw [decide_eq_true]; simp; omega)
theorem cv_inv (l : List UInt8) (v0 k v : Nat) (h : cvR l v0 (k + 1) = some v) : ∃ u b, cvR l v0 k = some u ∧ b < 64 ∧ (lB l (k + 1)).toNat = 128 + b ∧ v = 64 * u + b := by
  rw [cvR] at h
  cases hu : cvR l v0 k with
  | none => rw [hu] at h; cases h
  | some u =>
    rw [hu] at h
    simp only at h
    split at h
    · rename_i hc
      unfold isC at hc
      rw [decide_eq_true_eq] at hc
      have hv := Option.some.inj h
      exact ⟨u, (lB l (k + 1)).toNat - 128, rfl, by omega, by omega, by omega⟩
    · cases h
theorem rnN_inv (l : List UInt8) (n v0 v m : Nat) (h : rnN l n v0 = (v, m)) (hm : m ≠ 0) : m = n ∧ n ≤ l.length ∧ cvR l v0 (n - 1) = some v ∧ okR n v = true := by
  unfold rnN at h
  split at h
  · cases h; exact absurd rfl hm
  · rename_i hl
    split at h
    · cases h; exact absurd rfl hm
    · rename_i u hu
      split at h
      · rename_i ok
        cases h
        exact ⟨rfl, by omega, hu, ok⟩
      · cases h; exact absurd rfl hm
theorem u8_back (b : UInt8) : u8 b.toNat = b := by unfold u8; simp
theorem lB_u8 (l : List UInt8) (k n : Nat) (h : (lB l k).toNat = n) : lB l k = u8 n := by rw [← h, u8_back]
theorem okR_iff (n v : Nat) : okR n v = true ↔ leastR n ≤ v ∧ v ≤ 1114111 ∧ ¬ (55296 ≤ v ∧ v ≤ 57343) := by unfold okR; rw [decide_eq_true_eq]
theorem take1 (l : List UInt8) (h : 1 ≤ l.length) : l.take 1 = [lB l 0] := by
  match l, h with
  | a :: r, _ => rfl
theorem take2 (l : List UInt8) (h : 2 ≤ l.length) : l.take 2 = [lB l 0, lB l 1] := by
  match l, h with
  | a :: b :: r, _ => rfl
theorem take3 (l : List UInt8) (h : 3 ≤ l.length) : l.take 3 = [lB l 0, lB l 1, lB l 2] := by
  match l, h with
  | a :: b :: c :: r, _ => rfl
theorem take4 (l : List UInt8) (h : 4 ≤ l.length) : l.take 4 = [lB l 0, lB l 1, lB l 2, lB l 3] := by
  match l, h with
  | a :: b :: c :: d :: r, _ => rfl
theorem enc_rn (l : List UInt8) (v n : Nat) (h : rn l = (v, n)) (hn : n ≠ 0) : l.take n = enc v ∧ vR v ∧ n ≤ l.length := by
  by_cases h0 : l.length = 0
  · unfold rn at h; rw [if_pos h0] at h; cases h; exact absurd rfl hn
  rw [rn_b l _ h0 rfl] at h
  split at h
  · rename_i hb
    cases h
    have h1 : enc (lB l 0).toNat = [lB l 0] := by unfold enc; rw [if_pos hb, u8_back]
    exact ⟨by rw [h1]; exact take1 l (by omega), ⟨by omega, by omega⟩, by omega⟩
  split at h
  · rename_i hb1 hb
    obtain ⟨rfl, hl, hc, ok⟩ := rnN_inv _ _ _ _ _ h hn
    obtain ⟨u, b, e1, e2, e3, e4⟩ := cv_inv l _ 0 v hc
    have e5 := Option.some.inj e1
    rw [okR_iff] at ok
    have hle : leastR 2 = 128 := rfl
    have h1 : enc v = [lB l 0, lB l 1] := by
      unfold enc
      rw [if_neg (by omega), if_pos (by omega), lB_u8 l 0 (192 + v / 64) (by omega), lB_u8 l 1 (128 + v % 64) (by rw [e3]; omega)]
    exact ⟨by rw [h1]; exact take2 l hl, ⟨ok.2.1, ok.2.2⟩, hl⟩
  split at h
  · rename_i hb1 hb2 hb
    obtain ⟨rfl, hl, hc, ok⟩ := rnN_inv _ _ _ _ _ h hn
    obtain ⟨u, b, e1, e2, e3, e4⟩ := cv_inv l _ 1 v hc
    obtain ⟨u', b', f1, f2, f3, f4⟩ := cv_inv l _ 0 u e1
    have e5 := Option.some.inj f1
    rw [okR_iff] at ok
    have hle : leastR 3 = 2048 := rfl
    have h1 : enc v = [lB l 0, lB l 1, lB l 2] := by
      unfold enc
      rw [if_neg (by omega), if_neg (by omega), if_pos (by omega), lB_u8 l 0 (224 + v / 4096) (by omega), lB_u8 l 1 (128 + v / 64 % 64) (by rw [f3]; omega), lB_u8 l 2 (128 + v % 64) (by rw [e3]; omega)]
    exact ⟨by rw [h1]; exact take3 l hl, ⟨ok.2.1, ok.2.2⟩, hl⟩
  split at h
  · rename_i hb1 hb2 hb3 hb
    obtain ⟨rfl, hl, hc, ok⟩ := rnN_inv _ _ _ _ _ h hn
    obtain ⟨u, b, e1, e2, e3, e4⟩ := cv_inv l _ 2 v hc
    obtain ⟨u', b', f1, f2, f3, f4⟩ := cv_inv l _ 1 u e1
    obtain ⟨u'', b'', g1, g2, g3, g4⟩ := cv_inv l _ 0 u' f1
    have e5 := Option.some.inj g1
    rw [okR_iff] at ok
    have hle : leastR 4 = 65536 := rfl
    have h1 : enc v = [lB l 0, lB l 1, lB l 2, lB l 3] := by
      unfold enc
      rw [if_neg (by omega), if_neg (by omega), if_neg (by omega), lB_u8 l 0 (240 + v / 262144) (by omega), lB_u8 l 1 (128 + v / 4096 % 64) (by rw [g3]; omega), lB_u8 l 2 (128 + v / 64 % 64) (by rw [f3]; omega), lB_u8 l 3 (128 + v % 64) (by rw [e3]; omega)]
    exact ⟨by rw [h1]; exact take4 l hl, ⟨ok.2.1, ok.2.2⟩, hl⟩
  · cases h; exact absurd rfl hn
theorem qAt_cases (v : Nat) : (qAt v 7 0 = none ∧ v ≠ 34 ∧ v ≠ 92 ∧ v ≠ 8 ∧ v ≠ 12 ∧ v ≠ 10 ∧ v ≠ 13 ∧ v ≠ 9) ∨ v = 34 ∨ v = 92 ∨ v = 8 ∨ v = 12 ∨ v = 10 ∨ v = 13 ∨ v = 9 := by
  by_cases h : v = 34 ∨ v = 92 ∨ v = 8 ∨ v = 12 ∨ v = 10 ∨ v = 13 ∨ v = 9
  · exact .inr h
  · refine .inl ⟨?_, by omega⟩
    simp only [qAt, qRunes, List.getD_cons_zero, List.getD_cons_succ]
    repeat rw [if_neg (by omega)]
theorem hex_dg (n : Nat) (h : n < 16) : hexV (dgC n) = (n : Int) := by
  rcases (by omega : n = 0 ∨ n = 1 ∨ n = 2 ∨ n = 3 ∨ n = 4 ∨ n = 5 ∨ n = 6 ∨ n = 7 ∨ n = 8 ∨ n = 9 ∨ n = 10 ∨ n = 11 ∨ n = 12 ∨ n = 13 ∨ n = 14 ∨ n = 15) with rfl | rfl | rfl | rfl | rfl | rfl | rfl | rfl | rfl | rfl | rfl | rfl | rfl | rfl | rfl | rfl <;> decide
theorem esc_two (c : UInt8) (r : List UInt8) (i : Nat) (h : escAt c 8 0 = some i) : piece ([92, c] ++ r) = ([lB escMeans i], 2) := by
  unfold piece
  rw [if_pos (show lB ([92, c] ++ r) 0 = 92 from rfl)]
  unfold escS
  rw [if_pos (by simp), show lB ([92, c] ++ r) 1 = c from rfl, h]
theorem enc_small (v : Nat) (h : v < 128) : enc v = [u8 v] := by unfold enc; rw [if_pos h]
theorem hx_step (l : List UInt8) (k v d : Nat) (h : hx l k = some v) (hd : hexV (lB l (2 + k)) = (d : Int)) : hx l (k + 1) = some (16 * v + d) := by
  rw [hx, h]
  simp only
  rw [hd, if_neg (by omega), Int.toNat_natCast]
theorem esc_six (a b : Nat) (ha : a < 2) (hb : b < 16) (r : List UInt8) : piece ([92, 117, 48, 48, dgC a, dgC b] ++ r) = (enc (16 * a + b), 6) := by
  unfold piece
  rw [if_pos (show lB ([92, 117, 48, 48, dgC a, dgC b] ++ r) 0 = 92 from rfl)]
  unfold escS
  rw [if_pos (by simp), show lB ([92, 117, 48, 48, dgC a, dgC b] ++ r) 1 = 117 from rfl, show escAt 117 8 0 = none from by decide]
  simp only
  unfold escU
  rw [if_neg (by
    rintro (h | h)
    · simp at h; omega
    · exact h rfl)]
  have s1 := hx_step ([92, 117, 48, 48, dgC a, dgC b] ++ r) 0 0 0 rfl (show hexV 48 = 0 by decide)
  have s2 := hx_step ([92, 117, 48, 48, dgC a, dgC b] ++ r) 1 _ 0 s1 (show hexV 48 = 0 by decide)
  have s3 := hx_step ([92, 117, 48, 48, dgC a, dgC b] ++ r) 2 _ a s2 (hex_dg a (by omega))
  have s4 := hx_step ([92, 117, 48, 48, dgC a, dgC b] ++ r) 3 _ b s3 (hex_dg b hb)
  rw [s4]
  simp only
  rw [if_neg (by omega), show 16 * (16 * (16 * (16 * 0 + 0) + 0) + a) + b = 16 * a + b by omega]
theorem enc_first (v : Nat) (hv : v ≤ 1114111) (h : 128 ≤ v) (r : List UInt8) : 192 ≤ (lB (enc v ++ r) 0).toNat := by
  unfold enc
  rw [if_neg (by omega)]
  split
  · rw [show lB ([u8 (192 + v / 64), u8 (128 + v % 64)] ++ r) 0 = u8 (192 + v / 64) from rfl, u8_at _ (by omega)]; omega
  · split
    · rw [show lB ([u8 (224 + v / 4096), u8 (128 + v / 64 % 64), u8 (128 + v % 64)] ++ r) 0 = u8 (224 + v / 4096) from rfl, u8_at _ (by omega)]; omega
    · rw [show lB ([u8 (240 + v / 262144), u8 (128 + v / 4096 % 64), u8 (128 + v / 64 % 64), u8 (128 + v % 64)] ++ r) 0 = u8 (240 + v / 262144) from rfl, u8_at _ (by omega)]; omega
theorem piece_quo (v : Nat) (hv : vR v) (r : List UInt8) : piece (quo v ++ r) = (enc v, (quo v).length) ∧ lB (quo v ++ r) 0 ≠ 34 := by
  rcases qAt_cases v with ⟨hq, n1, n2, n3, n4, n5, n6, n7⟩ | rfl | rfl | rfl | rfl | rfl | rfl | rfl
  · by_cases h32 : v < 32
    · have e : quo v = [92, 117, 48, 48, dgC (v / 16), dgC (v % 16)] := by unfold quo; rw [hq]; simp only; rw [if_pos h32]
      rw [e]
      refine ⟨?_, show (92 : UInt8) ≠ 34 by decide⟩
      rw [esc_six (v / 16) (v % 16) (by omega) (by omega) r, show 16 * (v / 16) + v % 16 = v by omega]; rfl
    · have e : quo v = enc v := by unfold quo; rw [hq]; simp only; rw [if_neg h32]
      rw [e]
      have hfb : lB (enc v ++ r) 0 ≠ 92 ∧ lB (enc v ++ r) 0 ≠ 34 := by
        by_cases hs : v < 128
        · rw [enc_small v hs, show lB ([u8 v] ++ r) 0 = u8 v from rfl]
          have h9 := u8_at v (by omega)
          exact ⟨fun h => by rw [h] at h9; exact n2 h9.symm, fun h => by rw [h] at h9; exact n1 h9.symm⟩
        · have h9 := enc_first v hv.1 (by omega) r
          exact ⟨fun h => by rw [h] at h9; exact absurd h9 (by decide), fun h => by rw [h] at h9; exact absurd h9 (by decide)⟩
      refine ⟨?_, hfb.2⟩
      unfold piece
      rw [if_neg hfb.1, rn_enc v hv r]
      simp only
      rw [if_neg h32, List.take_left]
  all_goals
    refine ⟨?_, show (92 : UInt8) ≠ 34 by decide⟩
    rw [enc_small _ (by omega)]
  · exact esc_two 34 r 0 (by decide)
  · exact esc_two 92 r 1 (by decide)
  · exact esc_two 98 r 3 (by decide)
  · exact esc_two 102 r 4 (by decide)
  · exact esc_two 110 r 5 (by decide)
  · exact esc_two 114 r 6 (by decide)
  · exact esc_two 116 r 7 (by decide)
set_option linter.unusedVariables false
def QD (i1 : List UInt8) (i2 : List UInt8) : Prop := ∀ Q : List UInt8 → List UInt8 → Prop, (Q [] []) → (∀ (v : Nat) (q m : List UInt8) (hv : vR v) (h : Q q m), Q (quo v ++ q) (enc v ++ m)) → Q i1 i2
theorem QD.nil  : QD [] [] := fun Q q0 q1 => q0
theorem QD.cons (v : Nat) (q m : List UInt8) (hv : vR v) (h : QD q m) : QD (quo v ++ q) (enc v ++ m) := fun Q q0 q1 => q1 v q m hv (h Q q0 q1)
theorem QD.rc {M : ∀ (i1 : List UInt8) (i2 : List UInt8), QD i1 i2 → Prop} (nil : M [] [] (QD.nil)) (cons : ∀ (v : Nat) (q m : List UInt8) (hv : vR v) (h : QD q m), M q m h → M (quo v ++ q) (enc v ++ m) (QD.cons v q m hv h)) {i1 : List UInt8} {i2 : List UInt8} (h : QD i1 i2) : M i1 i2 h :=
  (h (fun i1 i2 => ∃ h9 : QD i1 i2, M i1 i2 h9) (⟨QD.nil, nil⟩) (fun v q m hv h => ⟨QD.cons v q m hv h.1, cons v q m hv h.1 h.2⟩)).2
theorem quo_pos (v : Nat) : 0 < (quo v).length := by
  unfold quo
  split
  · simp
  · split
    · simp
    · unfold enc
      (repeat' split) <;> simp
theorem qd_of (l : List UInt8) : ∀ f k out R, quF l f k out = some R → k ≤ l.length → ∃ q, QD q (l.drop k) ∧ R = out ++ q ++ [34]
  | 0, _, _, _, h, _ => by cases h
  | f + 1, k, out, R, h, hk => by
    rw [quF] at h
    cases hrn : rn (l.drop k) with
    | mk v n =>
    rw [hrn] at h
    simp only at h
    split at h
    · rename_i hlt
      split at h
      · cases h
      · rename_i hn
        obtain ⟨e1, e2, e3⟩ := enc_rn (l.drop k) v n hrn hn
        rw [List.length_drop] at e3
        obtain ⟨q, hq, hR⟩ := qd_of l f _ _ R h (by omega)
        refine ⟨quo v ++ q, ?_, by rw [hR]; simp⟩
        have e4 : l.drop k = enc v ++ l.drop (k + n) := by
          rw [← e1, ← List.drop_drop, List.take_append_drop]
        rw [e4]
        exact QD.cons _ _ _ e2 hq
    · rename_i hlt
      refine ⟨[], ?_, by rw [← Option.some.inj h]; simp⟩
      rw [List.drop_of_length_le (by omega)]; exact QD.nil
theorem lB_at (P S : List UInt8) : lB (P ++ S) P.length = lB S 0 := by unfold lB; rw [List.getElem?_append_right (Nat.le_refl _), Nat.sub_self]
theorem txt_qd {q m : List UInt8} (h : QD q m) : ∀ (P acc T : List UInt8) (g : Nat), q.length < g → txt (P ++ (q ++ 34 :: T)) g P.length acc = (acc ++ m, P.length + q.length + 1) := by
  induction h using QD.rc with
  | nil =>
    intro P acc T g hg
    obtain ⟨g', rfl⟩ : ∃ g', g = g' + 1 := ⟨g - 1, by omega⟩
    rw [txt, if_pos (by simp), lB_at, if_pos (show lB ([] ++ 34 :: T) 0 = 34 from rfl)]
    simp
  | cons v q m hv h ih =>
    intro P acc T g hg
    have hp := quo_pos v
    rw [List.length_append] at hg
    obtain ⟨g', rfl⟩ : ∃ g', g = g' + 1 := ⟨g - 1, by omega⟩
    have e0 : quo v ++ q ++ 34 :: T = quo v ++ (q ++ 34 :: T) := by simp
    obtain ⟨p1, p2⟩ := piece_quo v hv (q ++ 34 :: T)
    rw [e0, txt, if_pos (by simp; omega), lB_at, if_neg p2, List.drop_left, p1]
    simp only
    rw [if_neg (by omega)]
    have e1 : P ++ (quo v ++ (q ++ 34 :: T)) = (P ++ quo v) ++ (q ++ 34 :: T) := by simp
    have := ih (P ++ quo v) (acc ++ enc v) T g' (by omega)
    rw [List.length_append] at this
    rw [e1, this]
    simp only [List.length_append, List.append_assoc, Prod.mk.injEq, true_and]
    omega
theorem back_form (l R : List UInt8) (h : quA l = some R) : ∃ q, R = [34] ++ (q ++ [34]) ∧ QD q l := by
  obtain ⟨q, hq, hR⟩ := qd_of l _ _ _ R h (Nat.zero_le _)
  exact ⟨q, by rw [hR]; simp, by simpa using hq⟩
theorem one_back (l R : List UInt8) (h : quA l = some R) : oneTk R = (⟨11, 0, 0, l⟩, R.length) := by
  obtain ⟨q, rfl, hq⟩ := back_form l R h
  unfold oneTk
  rw [show lB ([34] ++ (q ++ [34])) 0 = 34 from rfl, show sgnAt 34 6 0 = none from by decide]
  simp only [if_true]
  have hx := txt_qd hq [34] [] [] ([34] ++ (q ++ [34])).length (by simp; omega)
  simp only [List.length_singleton] at hx
  rw [hx]
  simp only [List.nil_append, Prod.mk.injEq, true_and, List.length_append, List.length_singleton]
  omega
end Go.Proofs.YtalnbddkhojjbaaGreatDoor
namespace Go.Proofs.YtalnbddkhojjbaaGreatDoor
open Go.ChangeShapes Go.WideShapes Go.ChangeAt Go.RowKit

theorem own : ownKnob Tryz.prog.godebug = none := by kernel_rfl
theorem laidOut : laidOutB Tryz.prog = true := by kernel_rfl
theorem cells5 : Tryz.prog.cellsOf 5 = 1 := by kernel_rfl
theorem u8_bounds {x : Int} (h : (Lit.int .u8 x).wf = true) : 0 ≤ x ∧ x ≤ 255 := bounds_u8 h
end Go.Proofs.YtalnbddkhojjbaaGreatDoor
