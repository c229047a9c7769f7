
import Derived.Test.YtajmlfcbppnpgaaLawShaSums
namespace Go.Proofs.Ytajmlfcbppnpgaa
open Go.RowKit

/-! What a Hash owes, whatever it is made of: HIs w h l F: at w the Hash h has eaten l, and lies in the blocks F. -/
/-- Nothing but the blocks F has turned. -/
structure Keeps (F : List Nat) (w w' : World) : Prop where
  os : w'.os = w.os
  tape : w'.tape = w.tape
  output : w'.output = w.output
  size : w.heap.size ≤ w'.heap.size
  block : ∀ k, k < w.heap.size → k ∉ F → w'.heap[k]? = w.heap[k]?
theorem Keeps.below {F : List Nat} {w w' : World} {B : Nat} (h : Keeps F w w') (hF : ∀ q ∈ F, B ≤ q) (hB : B ≤ w.heap.size) : Below B w w' :=
  ⟨h.os, h.tape, h.output, h.size, fun k hk => h.block k (by omega) (fun hm => by have := hF k hm; omega)⟩
def InBlk (v : Value) (g : Nat) : Prop := ∀ a n c, v = .slice (some a) n c → a.block = g
theorem IsB.keeps {F : List Nat} {w w' : World} {v : Value} {l : List UInt8} {g : Nat} (h : IsB w v l) (hk : Keeps F w w') (hg : InBlk v g) (hn : g ∉ F) : IsB w' v l := by
  rcases h with h | ⟨x, c, rfl, hc⟩
  · exact .inl h
  · refine .inr ⟨x, c, rfl, fun i hi => ?_⟩
    have h1 := hc i hi
    have h2 := World.block_lt_of_cell? w _ h1
    rw [Addr.add_block] at h2
    have e := hg x _ _ rfl
    rw [World.cell?_of_block (w := w) (by rw [Addr.add_block]; exact hk.block _ h2 (by rw [e]; exact hn))]
    exact h1
structure HashOk (HIs : World → Value → List UInt8 → List Nat → Prop) : Prop where
  kept : ∀ {w w' h l F}, HIs w h l F → Below w.heap.size w w' → HIs w' h l F
  lt : ∀ {w h l F}, HIs w h l F → ∀ q ∈ F, q < w.heap.size
  new : ∀ w, Calls Try.prog 7 #[] w fun e w' => ∃ h F, e = .returned h ∧ (∃ a, h = .pointer (some a)) ∧ HIs w' h [] F ∧ (∀ q ∈ F, w.heap.size ≤ q) ∧ Below w.heap.size w w'
  write : ∀ w h l F v m g, HIs w h l F → IsB w v m → CapB v → InBlk v g → g ∉ F → l.length + m.length ≤ 140737488355328 →
    Calls Try.prog 8 #[h, v] w fun e w' => e = .returned (.tuple #[]) ∧ ∃ F', HIs w' h (l ++ m) F' ∧ (∀ q ∈ F', q ∈ F ∨ w.heap.size ≤ q) ∧ Keeps F w w'
  sum : ∀ w h l F, HIs w h l F → l.length ≤ 140737488355328 → Calls Try.prog 9 #[h] w fun e w' => e = .returned (.agg (dg_secA (shaL l))) ∧ Below w.heap.size w w'
  len : ∀ w h l F, HIs w h l F → l.length ≤ 140737488355328 → Calls Try.prog 11 #[h] w fun e w' => e = .returned (.int .i64 (l.length : Nat)) ∧ Below w.heap.size w w'
theorem InBlk.cut {x : Option Addr} {n c g : Nat} (h : InBlk (.slice x n c) g) (f r d : Nat) : InBlk (.slice (if c = f then x else x.map (fun a => a.add f)) r d) g := fun a m e he => by
  simp only [Value.slice.injEq] at he
  obtain ⟨he, _, _⟩ := he
  cases x with
  | none => split at he <;> simp at he
  | some y =>
    have hy := h y n c rfl
    split at he
    · simp only [Option.some.injEq] at he; rw [← he]; exact hy
    · simp only [Option.map_some, Option.some.injEq] at he; rw [← he, Addr.add_block]; exact hy
/-- What the methods owe on a nil Hash. -/
structure NilOk : Prop where
  write : ∀ w v, Calls Try.prog 8 #[.pointer none, v] w fun e w' => e = .returned (.tuple #[]) ∧ Below w.heap.size w w'
  sum : ∀ w, Calls Try.prog 9 #[.pointer none] w fun e w' => e = .returned (.agg (dg_secA dg_secZ)) ∧ Below w.heap.size w w'
  len : ∀ w, Calls Try.prog 11 #[.pointer none] w fun e w' => e = .returned (.int .i64 0) ∧ Below w.heap.size w w'
  copy : ∀ w, Calls Try.prog 14 #[.pointer none] w fun e w' => e = .returned (.pointer none) ∧ Below w.heap.size w w'
end Go.Proofs.Ytajmlfcbppnpgaa
