
import Derived.Test.YtligjfofnafjeaaGenA
namespace Go.Proofs.Ytligjfofnafjeaa
open Go.RowKit

/-! append([]T(nil), l...), append([]T{}, l...): a copy, of one-cell elements -/
theorem run_app0G {t e : TypeId} {bytes : Nat} (E : Elt t e bytes) (w : World) (a : Option Addr) (n c' : Nat) (hn : n ≤ c') (x : Option Addr) (c : Nat) (ty : TypeId) (hx : a = none → n = 0) :
    (Builtin.append_ #[t, t] ty #[.slice a n c', .slice x 0 c]).run Try.prog w = .ok (.slice a n c') w := by
  obtain ⟨i, z, hi, hz, hs, hby, hzs⟩ := E.info
  cases a with
  | none =>
    have := hx rfl
    subst this
    cases x <;> simp [Builtin.append_, run_underlying E.ht, sizeOf, typeInfo, hi, Builtin.lenOf, Builtin.firstCells, loadCells, loadCellsFrom]
  | some a => cases x <;> simp [Builtin.append_, run_underlying E.ht, sizeOf, typeInfo, hi, Builtin.lenOf, Builtin.firstCells, loadCells, loadCellsFrom, storeCells, hn]
theorem run_copyG {t e : TypeId} {bytes : Nat} (E : Elt t e bytes) (w : World) (B : Nat) (v : Value) (x : Option Addr) (n c : Nat) (xs : List Value) (ty : TypeId) (hv : OwnG e w B v []) (hB : B ≤ w.heap.size) (hn : xs.length = n) (h : IsG w (.slice x n c) xs) (h1 : ∀ u ∈ xs, u.oneCell' = true) (hl : n * bytes ≤ 140737488355328) (h63 : n ≤ maxLen) :
    ∃ v' w', (Builtin.append_ #[t, t] ty #[v, .slice x n c]).run Try.prog w = .ok v' w' ∧ OwnG e w' B v' xs ∧ Below B w w' := by
  by_cases h0 : xs = []
  · subst h0
    obtain rfl : n = 0 := by simpa using hn.symm
    rcases hv.2 with ⟨rfl, -⟩ | ⟨g, cap, cur, rfl, hb, hg, hle, hm, hs, ht⟩
    · exact ⟨_, w, run_app0G E w none 0 0 (Nat.le_refl _) x c ty (fun _ => rfl), hv, Below.refl _ _⟩
    · exact ⟨_, w, run_app0G E w (some ⟨g, 0, none⟩) 0 cap (Nat.zero_le _) x c ty (fun _ => rfl), hv, Below.refl _ _⟩
  · subst hn
    have hp : 0 < xs.length := List.length_pos_iff.2 h0
    rcases h with ⟨h, h2⟩ | ⟨a, d, he, hc⟩
    · exact absurd h2 h0
    · simp only [Value.slice.injEq] at he
      obtain ⟨rfl, -, rfl⟩ := he
      obtain ⟨v', w', hr, hO, hg, hB'⟩ := run_appG E w B v [] xs a c ty hv (fun j u hu => by
        obtain ⟨hj, rfl⟩ := List.getElem?_eq_some_iff.1 hu
        exact hc j hj) h1 h0 (by simpa using hl) (by simpa using h63) hB
      exact ⟨v', w', hr, by simpa using hO, hB'⟩
end Go.Proofs.Ytligjfofnafjeaa
