import Derived.Test.YtddmmmfpdmejbaaGreatDoorQJop
import Derived.Test.YtddmmmfpdmejbaaGreatDoorQRelk
namespace Go.Proofs.YtddmmmfpdmejbaaGreatDoor
open Go.RowKit

/-! A key and its value: what holds while they are laid into their object -/
@[go_sem] theorem run_ndBS_z (w : World) : (ndBS (.agg #[.int .i64 0, .int .i64 0, .string ⟨#[]⟩, .slice none 0 0, .slice none 0 0])).run Tryz.prog w = .ok (.value (.slice (some ⟨w.heap.size, 0, none⟩) 1 1)) (w.alloc (.cells (rnA rnZ) 41)) := run_ndBS w rnZ
structure IUc (x : World) (g gn B : Nat) (ks : Sl) (kb : List ByteArray) : Prop where
  kown : OwnG 9 x B ks.v (strs kb)
  gs : g < gn
  gB : gn < B
  sz : B ≤ x.heap.size
variable {g gn : Nat} {L : Sl} {ts : List Tk} {en : Int} {s : Ps} {q : Nd × Ps} {B : Nat} {ks vs : Sl} {kb : List ByteArray} {rs : List Rn} {vals : List Nd}
end Go.Proofs.YtddmmmfpdmejbaaGreatDoor
namespace Go.Proofs.YtddmmmfpdmejbaaGreatDoor
open Go.RowKit

/-! assayref15.Reader: pair -/
structure ObO (w : World) (gn B : Nat) (ks vs : Sl) (kb : List ByteArray) (rs : List Rn) (keys : List (List UInt8)) (vals : List Nd) : Prop where
  row : RowC w gn (rnA (obN ks vs))
  kown : OwnG 9 w B ks.v (strs kb)
  kk : kb.map lS = keys
  lst : LsO w B (kX ks) vs rs vals
  gB : gn < B
  sz : B ≤ w.heap.size
variable {w w' : World} {g gn B : Nat} {L ks vs : Sl} {ts : List Tk} {en : Int} {kb : List ByteArray} {rs : List Rn} {keys : List (List UInt8)} {vals : List Nd}
end Go.Proofs.YtddmmmfpdmejbaaGreatDoor
namespace Go.Proofs.YtddmmmfpdmejbaaGreatDoor
open Go.RowKit

/-! assayref15.Reader: object -/
end Go.Proofs.YtddmmmfpdmejbaaGreatDoor
namespace Go.Proofs.YtddmmmfpdmejbaaGreatDoor
open Go.RowKit

/-! assayref15.Reader: value; Parse -/
end Go.Proofs.YtddmmmfpdmejbaaGreatDoor
namespace Go.Proofs.YtddmmmfpdmejbaaGreatDoor
open Go.RowKit

/-! assayref15.Parse -/
theorem cutF_len15 (l : List UInt8) : ∀ f k out ts p, cutF l f k out = (some ts, p) → ts.length ≤ out.length + f
  | 0, k, out, ts, p, h => by simp [cutF] at h
  | f + 1, k, out, ts, p, h => by
    rw [cutF] at h
    split at h
    · split at h
      · have := cutF_len15 l f _ _ _ _ h; omega
      · split at h
        · simp at h
        · have := cutF_len15 l f _ _ _ _ h
          simp at this; omega
    · simp at h; rw [← h.1]; omega
theorem cutL_len15 (l : List UInt8) : (cutL l).length ≤ 4097 := by
  unfold cutL
  split
  · simp
  · cases h : (cutA l).1 with
    | none => simp
    | some ts =>
      have := cutF_len15 l (l.length + 1) 0 [] ts (cutA l).2 (by rw [← h]; rfl)
      simp at this ⊢; omega
end Go.Proofs.YtddmmmfpdmejbaaGreatDoor
