import Derived.Test.YtklbdhpnbjhgkaaGreatDoorQFi3
namespace Go.Proofs.YtklbdhpnbjhgkaaGreatDoor
open Go.RowKit Go.Sort

/-! The law's kept -/
/-- A twin in memory: each list with its mark behind it. -/
structure TwI (w : World) (r : Rp) (nf nd ni : Nat) (g1 d1 g2 d2 g3 d3 : Nat) : Prop where
  f : IsK fdE w (.slice (some ⟨g1, 0, none⟩) (nf + 1) d1) (r.fs ++ [(777, 0)])
  d : IsK dgE w (.slice (some ⟨g2, 0, none⟩) (nd + 1) d2) (r.ds ++ [dg7])
  i : IsG w (.slice (some ⟨g3, 0, none⟩) (ni + 1) d3) (inV (r.dr ++ [777]))
  ci : ni + 1 ≤ d3
  nf : r.fs.length = nf
  nd : r.ds.length = nd
  ni : r.dr.length = ni
theorem TwI.kept {w w' : World} {r : Rp} {nf nd ni : Nat} {g1 d1 g2 d2 g3 d3 : Nat} (h : TwI w r nf nd ni g1 d1 g2 d2 g3 d3) (hb : Below w.heap.size w w') : TwI w' r nf nd ni g1 d1 g2 d2 g3 d3 :=
  ⟨h.f.kept hb, h.d.kept hb, h.i.kept hb, h.ci, h.nf, h.nd, h.ni⟩
end Go.Proofs.YtklbdhpnbjhgkaaGreatDoor
