
import Derived.Test.YtmbkkdojjfdliaaSec
import Derived.BigQuiet
namespace Go.Proofs.Ytmbkkdojjfdliaa
open Go.RowKit

/-! A region that draws its order, whose operations read rows that nobody writes, and whose calls leave those rows alone: one walk in the order of the text. -/

/-- A world of which p is known. -/
structure Kw (p : World → Prop) where
  w : World
  ok : p w
theorem wp_region_kept (p : World → Prop) {id : Nat} {Q : Exit → Act → World → Prop} {a : Act} {w : World} {l : List Oper} (hB : Region.lexB .any l.toArray = true) (hp : p w.drew)
    (h : wpQuiet Try.prog l.toArray (fun w' => ∃ n : Kw p, w' = n.w) (fun a' => ∀ n : Kw p, Q .normal a' n.w) l a) : (Code.region id l.toArray true).wp Try.prog Q a w := by
  refine wp_region_quiet (C := fun w' => ∃ n : Kw p, w' = n.w) (by kernel_rfl) hB ⟨⟨w.drew, hp⟩, rfl⟩ ?_
  have e : (fun a' => ∀ w', (∃ n : Kw p, w' = n.w) → Q .normal a' w') = (fun a' => ∀ n : Kw p, Q .normal a' n.w) := by
    funext a'
    exact propext ⟨fun k n => k _ ⟨n, rfl⟩, fun k w' ⟨n, hn⟩ => hn ▸ k n⟩
  rw [e]
  simpa using h
/-- A callee's contract inside such a region. -/
theorem Calls.kept {p : World → Prop} {f : FuncId} {args : Array Value} {w : World} {v : Value} {R : World → Prop} (h : Calls Try.prog f args w fun e w' => e = .returned v ∧ R w') (hR : ∀ w', R w' → p w') :
    Calls Try.prog f args w fun e w' => e = .returned v ∧ ∃ m : Kw p, w' = m.w :=
  h.mono fun _ w' ⟨he, hr⟩ => ⟨he, ⟨w', hR w' hr⟩, rfl⟩

end Go.Proofs.Ytmbkkdojjfdliaa
