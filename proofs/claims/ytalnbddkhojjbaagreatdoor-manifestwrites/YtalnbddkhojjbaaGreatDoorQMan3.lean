import Derived.Test.YtalnbddkhojjbaaGreatDoorQMan1
import Derived.Test.YtalnbddkhojjbaaGreatDoorQJfd
import Derived.Test.YtalnbddkhojjbaaGreatDoorQDig2
namespace Go.Proofs.YtalnbddkhojjbaaGreatDoor
open Go.RowKit

/-! assayref16.desc -/
theorem dc_bodyPost2 {fn : Func} {R : Ending → World → Prop} {a : Act} {w : World} (p q n : Nat) (c : Array Value) (hres : fn.results = #[.cell p 35, .tmp q]) (hp : a.tmps.getD p undef = .pointer (some ⟨n, 0, none⟩)) (hd : a.defers = [])
    (hok : RowC w n c) (hc : c.size = 33) (h : R (.returned (.tuple #[.agg c, a.tmps.getD q undef])) w) : bodyPost Tryz.prog fn R .ret a w := by
  obtain ⟨t, hg⟩ := row_of_L hok.1
  rw [hok.2] at hg
  have hp' : a.tmps[p]?.getD undef = .pointer (some ⟨n, 0, none⟩) := by simpa using hp
  have hl := run_loadVar_row (P := Tryz.prog) w n t 35 c (0, 0) _ hg Tryz.underlying35 rfl (by rw [sizeT_dc, hc])
  refine bodyPost_ret (v := .tuple #[.agg c, a.tmps.getD q undef]) ?_ hd h
  simp [results, hres, hp', asAddr, hl]
/-- What desc leaves. -/
def DsP (d : Nd) (w : World) (e : Ending) (w' : World) : Prop := (∃ r b, e = .returned (.tuple #[.agg (dcA r), .bool b]) ∧ (∀ x, dscN d = some x → r = x ∧ b = true) ∧ (dscN d = none → r = dcZ ∧ b = false)) ∧ Below w.heap.size w w'
theorem dscN_no (d : Nd) (h : ∀ x y, fldN d kD = some x → fldN d kS = some y → x.kd = 4 ∧ y.kd = 3 ∧ 0 ≤ y.nn ∧ y.nn ≤ 2147483647 ∧ PGood x.ss → False) : dscN d = none := by
  unfold dscN
  cases h1 : fldN d kD with
  | none => rfl
  | some x =>
    cases h2 : fldN d kS with
    | none => rfl
    | some y =>
      simp only
      rw [if_neg (fun h9 => h x y h1 h2 h9)]
theorem dscN_yes (d x y : Nd) (h1 : fldN d kD = some x) (h2 : fldN d kS = some y) (h : x.kd = 4 ∧ y.kd = 3 ∧ 0 ≤ y.nn ∧ y.nn ≤ 2147483647 ∧ PGood x.ss) : dscN d = some ⟨pval x.ss, y.nn⟩ := by
  unfold dscN
  rw [h1, h2]
  simp only
  rw [if_pos h]
theorem ds_no {d : Nd} {w x : World} {n0 g : Nat} (h : dscN d = none) (hb : Below n0 w x) (hn : w.heap.size = n0) (hg : n0 ≤ g) : DsP d w (.returned (.tuple #[.agg (dcA dcZ), .bool false])) (x.setRow g (dcA dcZ)) :=
  ⟨⟨_, _, rfl, fun y h9 => (by rw [h] at h9; cases h9), fun _ => ⟨rfl, rfl⟩⟩, by rw [hn]; exact below_row14 hb hg _⟩
end Go.Proofs.YtalnbddkhojjbaaGreatDoor
namespace Go.Proofs.YtalnbddkhojjbaaGreatDoor
open Go.RowKit

/-! assayref16.descs -/
theorem dscA_none : ∀ (vs : List Nd) (i : Nat) (d : Nd), vs[i]? = some d → dscN d = none → dscA vs = none
  | [], i, d, h, _ => by simp at h
  | a :: r, 0, d, h, hd => by
    simp at h
    subst h
    rw [dscA, hd]
  | a :: r, i + 1, d, h, hd => by
    rw [dscA, dscA_none r i d (by simpa using h) hd]
    cases dscN a <;> rfl
end Go.Proofs.YtalnbddkhojjbaaGreatDoor
namespace Go.Proofs.YtalnbddkhojjbaaGreatDoor
open Go.RowKit

/-! assayref16.Read -/
theorem run_appAll16 {α : Type} {E : EK α} (O : E.Ok) (w : World) (B : Nat) (v : Option Addr) (n c' : Nat) (ds es : List α) (x : Option Addr) (m c N : Nat) (ty : TypeId) (h : OwnK E w B (.slice v n c') ds) (hx : IsK E w (.slice x m c) es) (hn : ds.length = n) (hm : es.length = m) (hN : n + m = N) (hl : N * E.bytes ≤ 140737488355328) (h63 : N ≤ maxLen) (hb : B ≤ w.heap.size) :
    ∃ v' c'' w', (Builtin.append_ #[E.S, E.S] ty #[.slice v n c', .slice x m c]).run Tryz.prog w = .ok (.slice v' N c'') w' ∧ OwnK E w' B (.slice v' N c'') (ds ++ es) ∧ Below B w w' := by
  subst hn hm hN
  by_cases h0 : es = []
  · subst h0
    have hcap := (h.isK O).cap
    have hv0 : v = none → ds.length = 0 := fun hv => by
      subst hv
      rcases Nat.eq_zero_or_pos ds.length with h1 | h1
      · exact h1
      · obtain ⟨g, e, -⟩ := h.form h1
        cases e
    exact ⟨v, c', w, run_appK0 O w v ds.length c' hcap.2 x c ty hv0, by simpa using h, Below.refl _ _⟩
  · obtain ⟨g, c2, w', hr, hO, hg, hway⟩ := run_appK O w B (.slice v ds.length c') ds es x c ty h hx h0 hl h63 hb
    exact ⟨_, c2, w', hr, hO, h.below hg hb⟩
/-- What Read leaves. -/
def RdP16 (l : List UInt8) (w : World) (e : Ending) (w' : World) : Prop := (∃ y n c, e = .returned (.tuple #[.int .i64 (mRd l).1, .slice y n c]) ∧ (mRd l).2.length = n ∧ OwnK dcE w' w.heap.size (.slice y n c) (mRd l).2) ∧ Below w.heap.size w w'
theorem rd_no {l : List UInt8} {w x : World} (h : mRd l = (0, [])) (hb : Below w.heap.size w x) : RdP16 l w (.returned (.tuple #[.int .i64 0, .slice none 0 0])) x := by
  unfold RdP16
  rw [h]
  exact ⟨⟨none, 0, 0, rfl, rfl, OwnK.nil _ _ _⟩, hb⟩
end Go.Proofs.YtalnbddkhojjbaaGreatDoor
