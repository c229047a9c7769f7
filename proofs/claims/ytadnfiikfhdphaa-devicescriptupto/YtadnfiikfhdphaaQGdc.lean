import Derived.Test.YtadnfiikfhdphaaQGdl
namespace Go.Proofs.Ytadnfiikfhdphaa
open Go.RowKit

set_option linter.unusedVariables false
/-! The calls of DeviceScript over its game -/
def At5 (B : Nat) (A : List Nat) (T0 : Nat → Option Th) (ps : List Pr5) (b : Bk) (bc : Array Value) (w : World) : Prop := ∃ T, G5 w B T ps b bc ∧ Rws T A ∧ Stc T0 T
variable {W W' : World} {B : Nat} {A : List Nat} {T0 : Nat → Option Th} {ps : List Pr5} {b : Bk} {bc : Array Value}
theorem At5.later (h : At5 B A T0 ps b bc W) (hb : Below W.heap.size W W') : At5 B A T0 ps b bc W' := by
  obtain ⟨T, h1, h2, h3⟩ := h
  exact ⟨T, h1.later hb, h2, h3⟩
theorem At5.size (h : At5 B A T0 ps b bc W) : B ≤ W.heap.size := by
  obtain ⟨T, h1, h2, h3⟩ := h
  exact h1.ga.size
structure Lim (n : Nat) (st : DSt) : Prop where
  pend : st.pend.length ≤ n
  wt : st.wt ≤ n
  rd : st.rd ≤ n
  fl : st.fl ≤ n
theorem At5.openD (h : At5 B A T0 ps b bc W) {k : Nat} {p : Pr5} (hp : ps[k]? = some p) :
    ∃ F R, DevIs W p.d p.sd F R ∧ (∀ q ∈ F, B ≤ q) ∧ (∀ v xs, T0 72 = some (thG 4 B v xs) → ∀ q, v.ownBlock = some q → q ∉ F) ∧ ∀ (W' : World) (sd' : DSt) (F' R' : List Nat), DevIs W' p.d sd' F' R' → (∀ q ∈ F', q ∈ F ∨ W.heap.size ≤ q) → (∀ q ∈ R', q ∈ R ∨ W.heap.size ≤ q) → Keep F W W' → At5 B A T0 (ps.set k { p with sd := sd' }) b bc W' ∧ KA B A W W' := by
  obtain ⟨T, h1, h2, h3⟩ := h
  obtain ⟨F, R, g0, gB, g7, hop⟩ := h1.actD hp
  refine ⟨F, R, g0, gB, fun v xs e => g7 v xs (h3.2.2.2.2.trans e), fun W' sd' F' R' a1 a2 a3 a4 => ?_⟩
  obtain ⟨T', g1, g2, g3⟩ := hop W' sd' F' R' a1 a2 a3 a4
  exact ⟨⟨T', g1, (g2 A h2).2, h3.trans g3⟩, (g2 A h2).1⟩
theorem At5.openR (h : At5 B A T0 ps b bc W) {k : Nat} {p : Pr5} (hp : ps[k]? = some p) :
    ∃ F, RefIs W B p.r p.sr F ∧ (∀ q ∈ F, B ≤ q) ∧ (∀ v xs, T0 72 = some (thG 4 B v xs) → ∀ q, v.ownBlock = some q → q ∉ F) ∧ ∀ (W' : World) (sr' : DSt) (F' : List Nat), RefIs W' B p.r sr' F' → (∀ q ∈ F', q ∈ F ∨ W.heap.size ≤ q) → Keep F W W' → At5 B A T0 (ps.set k { p with sr := sr' }) b bc W' ∧ KA B A W W' := by
  obtain ⟨T, h1, h2, h3⟩ := h
  obtain ⟨F, g0, gB, g7, hop⟩ := h1.actR hp
  refine ⟨F, g0, gB, fun v xs e => g7 v xs (h3.2.2.2.2.trans e), fun W' sr' F' a1 a2 a4 => ?_⟩
  obtain ⟨T', g1, g2, g3⟩ := hop W' sr' F' a1 a2 a4
  exact ⟨⟨T', g1, (g2 A h2).2, h3.trans g3⟩, (g2 A h2).1⟩
theorem At5.writeD (h : At5 B A T0 ps b bc W) {k : Nat} {p : Pr5} (hp : ps[k]? = some p) (a : Int) (s : Sc) (hn : Lim 1099511627776 p.sd) (ha0 : -9223372036854775808 ≤ a) (ha1 : a ≤ 9223372036854775807) :
    Calls Try.prog 16 #[p.d, .int .i64 a, .agg (secA s)] W fun e w' => e = .returned (.int .i64 (wrRes p.sd a)) ∧ At5 B A T0 (ps.set k { p with sd := wrSt p.sd a s }) b bc w' ∧ KA B A W w' := by
  obtain ⟨F, R, hd, hFB, h7, hop⟩ := h.openD hp
  refine (devOk.write W p.d p.sd F R a s hd hn.pend (by have := hn.wt; omega) ha0 ha1).mono ?_
  rintro e w' ⟨rfl, ⟨F', R', x1, x2, x3, x4⟩, -⟩
  exact ⟨rfl, hop w' _ F' R' x1 x2 x3 x4⟩
theorem At5.writeR (h : At5 B A T0 ps b bc W) {k : Nat} {p : Pr5} (hp : ps[k]? = some p) (a : Int) (s : Sc) (hn : Lim 1099511627776 p.sr) (ha0 : -9223372036854775808 ≤ a) (ha1 : a ≤ 9223372036854775807) :
    Calls Try.prog 27 #[.pointer (some ⟨p.r, 0, none⟩), .int .i64 a, .agg (secA s)] W fun e w' => e = .returned (.int .i64 (wrRes p.sr a)) ∧ At5 B A T0 (ps.set k { p with sr := wrSt p.sr a s }) b bc w' ∧ KA B A W w' := by
  obtain ⟨F, hd, hFB, h7, hop⟩ := h.openR hp
  refine (refWrite_any W B p.r p.sr F a s hd hn.pend (by have := hn.wt; omega)).mono ?_
  rintro e w' ⟨rfl, F', x1, x2, x4⟩
  exact ⟨rfl, hop w' _ F' x1 x2 x4⟩
theorem At5.flushD (h : At5 B A T0 ps b bc W) {k : Nat} {p : Pr5} (hp : ps[k]? = some p)  (hn : Lim 1099511627776 p.sd) :
    Calls Try.prog 20 #[p.d] W fun e w' => e = .returned (.int .i64 (flRes p.sd)) ∧ At5 B A T0 (ps.set k { p with sd := flSt p.sd }) b bc w' ∧ KA B A W w' := by
  obtain ⟨F, R, hd, hFB, h7, hop⟩ := h.openD hp
  refine (devOk.flush W p.d p.sd F R hd hn.pend (by have := hn.fl; omega)).mono ?_
  rintro e w' ⟨rfl, F', R', x1, x2, x3, x4⟩
  exact ⟨rfl, hop w' _ F' R' x1 x2 x3 x4⟩
theorem At5.flushR (h : At5 B A T0 ps b bc W) {k : Nat} {p : Pr5} (hp : ps[k]? = some p)  (hn : Lim 1099511627776 p.sr) :
    Calls Try.prog 28 #[.pointer (some ⟨p.r, 0, none⟩)] W fun e w' => e = .returned (.int .i64 (flRes p.sr)) ∧ At5 B A T0 (ps.set k { p with sr := flSt p.sr }) b bc w' ∧ KA B A W w' := by
  obtain ⟨F, hd, hFB, h7, hop⟩ := h.openR hp
  refine (refFlush_any W B p.r p.sr F hd hn.pend (by have := hn.fl; omega)).mono ?_
  rintro e w' ⟨rfl, x1, x4⟩
  exact ⟨rfl, hop w' _ F x1 (fun q hq => .inl hq) x4⟩
theorem At5.readD (h : At5 B A T0 ps b bc W) {k : Nat} {p : Pr5} (hp : ps[k]? = some p) (a : Int) (hn : Lim 1099511627776 p.sd) (ha0 : -9223372036854775808 ≤ a) (ha1 : a ≤ 9223372036854775807) :
    Calls Try.prog 19 #[p.d, .int .i64 a] W fun e w' => e = .returned (.tuple #[.agg (secA (rdSec p.sd a)), .int .i64 (rdRes p.sd a)]) ∧ At5 B A T0 (ps.set k { p with sd := rdSt p.sd a }) b bc w' ∧ KA B A W w' := by
  obtain ⟨F, R, hd, hFB, h7, hop⟩ := h.openD hp
  refine (devOk.read W p.d p.sd F R a hd hn.pend (by have := hn.rd; omega) ha0 ha1).mono ?_
  rintro e w' ⟨rfl, F', R', x1, x2, x3, x4⟩
  exact ⟨rfl, hop w' _ F' R' x1 x2 x3 x4⟩
theorem At5.readR (h : At5 B A T0 ps b bc W) {k : Nat} {p : Pr5} (hp : ps[k]? = some p) (a : Int) (hn : Lim 1099511627776 p.sr) (ha0 : -9223372036854775808 ≤ a) (ha1 : a ≤ 9223372036854775807) :
    Calls Try.prog 29 #[.pointer (some ⟨p.r, 0, none⟩), .int .i64 a] W fun e w' => e = .returned (.tuple #[.agg (secA (rdSec p.sr a)), .int .i64 (rdRes p.sr a)]) ∧ At5 B A T0 (ps.set k { p with sr := rdSt p.sr a }) b bc w' ∧ KA B A W w' := by
  obtain ⟨F, hd, hFB, h7, hop⟩ := h.openR hp
  refine (refRead_any W B p.r p.sr F a hd hn.pend (by have := hn.rd; omega)).mono ?_
  rintro e w' ⟨rfl, x1, x4⟩
  exact ⟨rfl, hop w' _ F x1 (fun q hq => .inl hq) x4⟩
theorem At5.stopD (h : At5 B A T0 ps b bc W) {k : Nat} {p : Pr5} (hp : ps[k]? = some p) (a : Int) (ha0 : -9223372036854775808 ≤ a) (ha1 : a ≤ 9223372036854775807) :
    Calls Try.prog 21 #[p.d, .int .i64 a] W fun e w' => e = .returned (.tuple #[]) ∧ At5 B A T0 (ps.set k { p with sd := stSt p.sd a }) b bc w' ∧ KA B A W w' := by
  obtain ⟨F, R, hd, hFB, h7, hop⟩ := h.openD hp
  refine (devOk.stop W p.d p.sd F R a hd ha0 ha1).mono ?_
  rintro e w' ⟨rfl, F', R', x1, x2, x3, x4⟩
  exact ⟨rfl, hop w' _ F' R' x1 x2 x3 x4⟩
theorem At5.stopR (h : At5 B A T0 ps b bc W) {k : Nat} {p : Pr5} (hp : ps[k]? = some p) (a : Int) (ha0 : -9223372036854775808 ≤ a) (ha1 : a ≤ 9223372036854775807) :
    Calls Try.prog 30 #[.pointer (some ⟨p.r, 0, none⟩), .int .i64 a] W fun e w' => e = .returned (.tuple #[]) ∧ At5 B A T0 (ps.set k { p with sr := stSt p.sr a }) b bc w' ∧ KA B A W w' := by
  obtain ⟨F, hd, hFB, h7, hop⟩ := h.openR hp
  refine (refStop_any W B p.r p.sr F a hd ⟨ha0, ha1⟩).mono ?_
  rintro e w' ⟨rfl, x1, x4⟩
  exact ⟨rfl, hop w' _ F x1 (fun q hq => .inl hq) x4⟩
theorem At5.restartD (h : At5 B A T0 ps b bc W) {k : Nat} {p : Pr5} (hp : ps[k]? = some p) (xb : Option Addr) (nb cb : Nat) (bs : List Bool) (hn : Lim 1099511627776 p.sd) (hl : bs.length = nb) (hc : nb ≤ cb) (hg : IsG W (.slice xb nb cb) (bs.map Value.bool)) (hx : T0 72 = some (thG 4 B (.slice xb nb cb) (bs.map Value.bool))) (hx0 : ∀ x, xb = some x → (Value.slice xb nb cb).ownBlock = some x.block) :
    Calls Try.prog 22 #[p.d, .slice xb nb cb] W fun e w' => e = .returned (.tuple #[]) ∧ At5 B A T0 (ps.set k { p with sd := reSt p.sd bs }) b bc w' ∧ KA B A W w' := by
  obtain ⟨F, R, hd, hFB, h7, hop⟩ := h.openD hp
  refine (devOk.restart W p.d p.sd F R xb nb cb bs hd hn.pend hl hc hg ?_).mono ?_
  · exact fun x hx9 => h7 _ _ hx _ (hx0 x hx9)
  rintro e w' ⟨rfl, F', R', x1, x2, x3, x4⟩
  exact ⟨rfl, hop w' _ F' R' x1 x2 x3 x4⟩
theorem At5.restartR (h : At5 B A T0 ps b bc W) {k : Nat} {p : Pr5} (hp : ps[k]? = some p) (xb : Option Addr) (nb cb : Nat) (bs : List Bool) (hn : Lim 1099511627776 p.sr) (hl : bs.length = nb) (hc : nb ≤ cb) (hg : IsG W (.slice xb nb cb) (bs.map Value.bool)) (hx : bs ≠ [] → ∀ x, xb = some x → x.block < B) :
    Calls Try.prog 31 #[.pointer (some ⟨p.r, 0, none⟩), .slice xb nb cb] W fun e w' => e = .returned (.tuple #[]) ∧ At5 B A T0 (ps.set k { p with sr := reSt p.sr bs }) b bc w' ∧ KA B A W w' := by
  obtain ⟨F, hd, hFB, h7, hop⟩ := h.openR hp
  refine (refRestart_any W B p.r p.sr F xb nb cb bs hd hn.pend hl hg ?_).mono ?_
  · exact fun hne x hx9 hm => by have := hx hne x hx9; have := hFB _ hm; omega
  rintro e w' ⟨rfl, x1, x4⟩
  exact ⟨rfl, hop w' _ F x1 (fun q hq => .inl hq) x4⟩
end Go.Proofs.Ytadnfiikfhdphaa
