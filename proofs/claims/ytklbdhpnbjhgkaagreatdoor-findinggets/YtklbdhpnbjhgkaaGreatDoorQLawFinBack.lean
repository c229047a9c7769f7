import Derived.Test.YtklbdhpnbjhgkaaGreatDoorQFiH
namespace Go.Proofs.YtklbdhpnbjhgkaaGreatDoor
open Go.RowKit Go.Sort

/-! FindingBack -/
theorem OwnB.slice22 {w : World} {B : Nat} {v : Value} {l : List UInt8} (h : OwnB w B v l) : ∃ x c, v = .slice x l.length c ∧ l.length ≤ c ∧ ∀ a, x = some a → a.block < w.heap.size := by
  obtain ⟨-, ⟨rfl, h1⟩ | ⟨g, cap, cur, rfl, hb, hg, hle, -⟩⟩ := h
  · refine ⟨none, 0, ?_, ?_, fun a ha => by cases ha⟩
    · rw [h1]
    · omega
  · refine ⟨_, cap, rfl, hle, fun a ha => ?_⟩
    cases ha
    exact (Array.getElem?_eq_some_iff.1 hg).1
theorem OwnK.cap22 {α : Type} {E : EK α} (O : E.Ok) {w : World} {B n c : Nat} {x : Option Addr} {ds : List α} (h : OwnK E w B (.slice x n c) ds) : ds.length = n := ((h.isK O).cap.1).symm
theorem ownI_num {w : World} {B n c : Nat} {x : Option Addr} {l : List Int} (h : OwnI w B (.slice x n c) l) : l.length = n := by
  have := OwnG.num h
  rw [inV_len] at this
  exact this.symm
theorem RpI.ofOwn {w : World} {B : Nat} {r : Rp} {xf : Option Addr} {nf cf : Nat} {xd : Option Addr} {nd cd : Nat} {xi : Option Addr} {ni ci : Nat} (h1 : OwnK fdE w B (.slice xf nf cf) r.fs) (h2 : OwnK dgE w B (.slice xd nd cd) r.ds) (h3 : OwnI w B (.slice xi ni ci) r.dr) : RpI w r xf nf cf xd nd cd xi ni ci :=
  ⟨h1.isK fdE_ok, h2.isK dgE_ok, OwnG.isG h3, h1.cap22 fdE_ok, h2.cap22 dgE_ok, ownI_num h3⟩
/-- append([]byte{}, b...): a copy of one's own. -/
theorem copyB22 (w : World) (x : Option Addr) (n c : Nat) (b : List UInt8) (ty : TypeId) (hb : IsB w (.slice x n c) b) (hn : b.length = n) (hl : n ≤ 140737488355328) :
    ∃ v' w', (Builtin.append_ #[33, 33] ty #[.slice (some ⟨w.heap.size, 0, none⟩) 0 0, .slice x n c]).run Tryz.prog (w.alloc (.cells #[] 5)) = .ok v' w' ∧ OwnB w' w.heap.size v' b ∧ Below w.heap.size w w' := by
  have b0 := below_alloc w (.cells #[] 5)
  obtain ⟨v', w', h1, h2, h3, -⟩ := appB22 (w.alloc (.cells #[] 5)) w.heap.size (.slice (some ⟨w.heap.size, 0, none⟩) 0 0) [] x n c b ty (ownB_empty w) hn (hb.kept b0) (by simp; omega) b0.size
  exact ⟨v', w', h1, h2, b0.trans h3⟩
end Go.Proofs.YtklbdhpnbjhgkaaGreatDoor
