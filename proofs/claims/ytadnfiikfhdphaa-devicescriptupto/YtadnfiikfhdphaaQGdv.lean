import Derived.Test.YtadnfiikfhdphaaQGal
import Derived.Test.YtadnfiikfhdphaaQDevZ
import Derived.Test.YtadnfiikfhdphaaQRefW
import Derived.Test.YtadnfiikfhdphaaQReli
namespace Go.Proofs.Ytadnfiikfhdphaa
open Go.RowKit

/-! The game of DeviceScript: pairs of devices, a book of lists -/
structure Slc where
  y : Option Addr
  n : Nat
  c : Nat
def Slc.v (s : Slc) : Value := .slice s.y s.n s.c
def thD (d : Value) (st : DSt) : Th where
  P w F R := DevIs w d st F R
  keeps := fun h hK hd => devOk.keeps h hK hd
  sub := fun h => devOk.sub h
  lt := fun h => devOk.lt h
def thRf (B : Nat) (r : Nat) (st : DSt) : Th where
  P w F R := RefIs w B r st F ∧ R = F
  keeps := fun ⟨h, e⟩ hK hd => ⟨h.keeps hK (by rw [← e]; exact hd), e⟩
  sub := fun ⟨_, e⟩ q hq => by rw [e]; exact hq
  lt := fun ⟨h, e⟩ q hq => (h.lt q (by rw [← e]; exact hq)).2
structure Pr5 where
  d : Value
  r : Nat
  sd : DSt
  sr : DSt
structure Bk where
  g : Nat
  S : Slc
  WS : Slc
  P : Slc
  WP : Slc
  sS : List (Slc × List Sc)
  sW : List (Slc × List Sc)
  sP : List (Slc × List Wr)
  sV : List (Slc × List Wr)
def bkA (b : Bk) : Array Value := #[b.S.v, b.WS.v, b.P.v, b.WP.v]
def sVal {α : Type} (x : Slc × List α) : Value := x.1.v
def Fit {α : Type} (s : Slc) (l : List (Slc × List α)) : Prop := s.n = l.length ∧ ∀ x ∈ l, x.2.length = x.1.n
structure G5 (W : World) (B : Nat) (T : Nat → Option Th) (ps : List Pr5) (b : Bk) (bc : Array Value) : Prop where
  ga : Ga W B T
  dev : ∀ (k : Nat) p, ps[k]? = some p → T (8 * k + 1) = some (thD p.d p.sd)
  ref : ∀ (k : Nat) p, ps[k]? = some p → T (8 * k + 2) = some (thRf B p.r p.sr)
  book : T 16 = some (thRow b.g bc)
  S : T 24 = some (thG 24 B b.S.v (b.sS.map sVal))
  WS : T 32 = some (thG 24 B b.WS.v (b.sW.map sVal))
  P : T 40 = some (thG 56 B b.P.v (b.sP.map sVal))
  WP : T 48 = some (thG 56 B b.WP.v (b.sV.map sVal))
  lS : ∀ (k : Nat) x, b.sS[k]? = some x → T (8 * k + 3) = some (thK secE B x.1.v x.2)
  lP : ∀ (k : Nat) x, b.sP[k]? = some x → T (8 * k + 4) = some (thK wrE B x.1.v x.2)
  lW : ∀ (k : Nat) x, b.sW[k]? = some x → T (8 * k + 5) = some (thKr secE B x.1.v x.2)
  lV : ∀ (k : Nat) x, b.sV[k]? = some x → T (8 * k + 6) = some (thKr wrE B x.1.v x.2)
  nS : Fit b.S b.sS
  nW : Fit b.WS b.sW
  nP : Fit b.P b.sP
  nV : Fit b.WP b.sV
/-- What answered leaves alone. -/
def Stc (T T' : Nat → Option Th) : Prop := T' 0 = T 0 ∧ T' 8 = T 8 ∧ T' 56 = T 56 ∧ T' 64 = T 64 ∧ T' 72 = T 72
theorem Stc.refl (T : Nat → Option Th) : Stc T T := ⟨rfl, rfl, rfl, rfl, rfl⟩
theorem Stc.trans {T T1 T2 : Nat → Option Th} (h : Stc T T1) (k : Stc T1 T2) : Stc T T2 := ⟨k.1.trans h.1, k.2.1.trans h.2.1, k.2.2.1.trans h.2.2.1, k.2.2.2.1.trans h.2.2.2.1, k.2.2.2.2.trans h.2.2.2.2⟩
theorem Stc.upd {T : Nat → Option Th} {k : Nat} {t : Th} (h : k ≠ 0 ∧ k ≠ 8 ∧ k ≠ 56 ∧ k ≠ 64 ∧ k ≠ 72) : Stc T (updT T k t) := ⟨updT_ne _ _ _ _ (fun e => h.1 e.symm), updT_ne _ _ _ _ (fun e => h.2.1 e.symm), updT_ne _ _ _ _ (fun e => h.2.2.1 e.symm), updT_ne _ _ _ _ (fun e => h.2.2.2.1 e.symm), updT_ne _ _ _ _ (fun e => h.2.2.2.2 e.symm)⟩
/-- Rows that are read all the time: the book's, the act's. -/
def Rws (T : Nat → Option Th) (A : List Nat) : Prop := ∀ a ∈ A, ∃ j c, (j = 16 ∨ j = 56 ∨ j = 64) ∧ T j = some (thRow a c)
theorem Rws.n {T : Nat → Option Th} {A : List Nat} (h : Rws T A) {k : Nat} (hk : k ≠ 16 ∧ k ≠ 56 ∧ k ≠ 64) : RwN k T A := fun a ha => by
  obtain ⟨j, c, hj, e⟩ := h a ha
  exact ⟨j, c, by omega, e⟩
theorem Rws.upd {T : Nat → Option Th} {A : List Nat} (h : Rws T A) {k : Nat} {t : Th} (hk : k ≠ 16 ∧ k ≠ 56 ∧ k ≠ 64) : Rws (updT T k t) A := fun a ha => by
  obtain ⟨j, c, hj, e⟩ := h a ha
  exact ⟨j, c, hj, by rw [updT_ne _ _ _ _ (by omega)]; exact e⟩
theorem set_get {α : Type} {l : List α} {k j : Nat} {p q : α} (h : (l.set k p)[j]? = some q) : (j = k ∧ q = p) ∨ (j ≠ k ∧ l[j]? = some q) := by
  rw [List.getElem?_set] at h
  split at h
  · rename_i e
    split at h
    · cases h; exact .inl ⟨e.symm, rfl⟩
    · cases h
  · rename_i e
    exact .inr ⟨fun e9 => e e9.symm, h⟩
variable {W W' : World} {B : Nat} {T : Nat → Option Th} {ps : List Pr5} {b : Bk} {bc : Array Value}
theorem G5.later (h : G5 W B T ps b bc) (hb : Below W.heap.size W W') : G5 W' B T ps b bc := { h with ga := h.ga.later hb }
theorem G5.actD (h : G5 W B T ps b bc) {k : Nat} {p : Pr5} (hp : ps[k]? = some p)
    : ∃ F R, DevIs W p.d p.sd F R ∧ (∀ q ∈ F, B ≤ q) ∧ (∀ v xs, T 72 = some (thG 4 B v xs) → ∀ q, v.ownBlock = some q → q ∉ F) ∧ ∀ (W' : World) (sd' : DSt) (F' R' : List Nat), DevIs W' p.d sd' F' R' → (∀ q ∈ F', q ∈ F ∨ W.heap.size ≤ q) → (∀ q ∈ R', q ∈ R ∨ W.heap.size ≤ q) → Keep F W W' →
    ∃ T', G5 W' B T' (ps.set k { p with sd := sd' }) b bc ∧ (∀ A, Rws T A → KA B A W W' ∧ Rws T' A) ∧ Stc T T' := by
  obtain ⟨F, R, hP, hFB, hoth, hop⟩ := h.ga.open (h.dev k p hp)
  refine ⟨F, R, hP, hFB, (fun v xs h72 q hq hm => by
    obtain ⟨Fj, Rj, ⟨-, e1, e2⟩, h9⟩ := hoth 72 _ h72 (by omega)
    exact h9 q hm (by rw [e2, e1, hq]; simp)), fun W' sd' F' R' a1 a2 a3 a4 => ?_⟩
  obtain ⟨g, hB⟩ := hop W' (thD p.d sd') F' R' a1 a2 a3 a4
  refine ⟨_, ⟨g, fun j q hq => ?_, fun j q hq => ?_, ?_, ?_, ?_, ?_, ?_, fun j x hx => ?_, fun j x hx => ?_, fun j x hx => ?_, fun j x hx => ?_, h.nS, h.nW, h.nP, h.nV⟩, fun A hA => ⟨hB A (hA.n (by omega)), hA.upd (by omega)⟩, Stc.upd (by omega)⟩
  · rcases set_get hq with ⟨rfl, rfl⟩ | ⟨hne, hq⟩
    · exact updT_same _ _ _
    · rw [updT_ne _ _ _ _ (by omega)]; exact h.dev j q hq
  · rw [updT_ne _ _ _ _ (by omega)]
    rcases set_get hq with ⟨rfl, rfl⟩ | ⟨hne, hq⟩
    · exact h.ref j p hp
    · exact h.ref j q hq
  · rw [updT_ne _ _ _ _ (by omega)]; exact h.book
  · rw [updT_ne _ _ _ _ (by omega)]; exact h.S
  · rw [updT_ne _ _ _ _ (by omega)]; exact h.WS
  · rw [updT_ne _ _ _ _ (by omega)]; exact h.P
  · rw [updT_ne _ _ _ _ (by omega)]; exact h.WP
  · rw [updT_ne _ _ _ _ (by omega)]; exact h.lS j x hx
  · rw [updT_ne _ _ _ _ (by omega)]; exact h.lP j x hx
  · rw [updT_ne _ _ _ _ (by omega)]; exact h.lW j x hx
  · rw [updT_ne _ _ _ _ (by omega)]; exact h.lV j x hx
theorem G5.actR (h : G5 W B T ps b bc) {k : Nat} {p : Pr5} (hp : ps[k]? = some p)
    : ∃ F, RefIs W B p.r p.sr F ∧ (∀ q ∈ F, B ≤ q) ∧ (∀ v xs, T 72 = some (thG 4 B v xs) → ∀ q, v.ownBlock = some q → q ∉ F) ∧ ∀ (W' : World) (sr' : DSt) (F' : List Nat), RefIs W' B p.r sr' F' → (∀ q ∈ F', q ∈ F ∨ W.heap.size ≤ q) → Keep F W W' →
    ∃ T', G5 W' B T' (ps.set k { p with sr := sr' }) b bc ∧ (∀ A, Rws T A → KA B A W W' ∧ Rws T' A) ∧ Stc T T' := by
  obtain ⟨F, R, ⟨hP, rfl⟩, hFB, hoth, hop⟩ := h.ga.open (h.ref k p hp)
  refine ⟨R, hP, hFB, (fun v xs h72 q hq hm => by
    obtain ⟨Fj, Rj, ⟨-, e1, e2⟩, h9⟩ := hoth 72 _ h72 (by omega)
    exact h9 q hm (by rw [e2, e1, hq]; simp)), fun W' sr' F' a1 a2 a4 => ?_⟩
  obtain ⟨g, hB⟩ := hop W' (thRf B p.r sr') F' F' ⟨a1, rfl⟩ a2 a2 a4
  refine ⟨_, ⟨g, fun j q hq => ?_, fun j q hq => ?_, ?_, ?_, ?_, ?_, ?_, fun j x hx => ?_, fun j x hx => ?_, fun j x hx => ?_, fun j x hx => ?_, h.nS, h.nW, h.nP, h.nV⟩, fun A hA => ⟨hB A (hA.n (by omega)), hA.upd (by omega)⟩, Stc.upd (by omega)⟩
  · rw [updT_ne _ _ _ _ (by omega)]
    rcases set_get hq with ⟨rfl, rfl⟩ | ⟨hne, hq⟩
    · exact h.dev j p hp
    · exact h.dev j q hq
  · rcases set_get hq with ⟨rfl, rfl⟩ | ⟨hne, hq⟩
    · exact updT_same _ _ _
    · rw [updT_ne _ _ _ _ (by omega)]; exact h.ref j q hq
  · rw [updT_ne _ _ _ _ (by omega)]; exact h.book
  · rw [updT_ne _ _ _ _ (by omega)]; exact h.S
  · rw [updT_ne _ _ _ _ (by omega)]; exact h.WS
  · rw [updT_ne _ _ _ _ (by omega)]; exact h.P
  · rw [updT_ne _ _ _ _ (by omega)]; exact h.WP
  · rw [updT_ne _ _ _ _ (by omega)]; exact h.lS j x hx
  · rw [updT_ne _ _ _ _ (by omega)]; exact h.lP j x hx
  · rw [updT_ne _ _ _ _ (by omega)]; exact h.lW j x hx
  · rw [updT_ne _ _ _ _ (by omega)]; exact h.lV j x hx
theorem G5.isDev (h : G5 W B T ps b bc) {k : Nat} {p : Pr5} (hp : ps[k]? = some p) : ∃ F R, DevIs W p.d p.sd F R := h.ga.get (h.dev k p hp)
theorem G5.isRef (h : G5 W B T ps b bc) {k : Nat} {p : Pr5} (hp : ps[k]? = some p) : ∃ F, RefIs W B p.r p.sr F := by
  obtain ⟨F, R, h1, _⟩ := h.ga.get (h.ref k p hp)
  exact ⟨F, h1⟩
end Go.Proofs.Ytadnfiikfhdphaa
