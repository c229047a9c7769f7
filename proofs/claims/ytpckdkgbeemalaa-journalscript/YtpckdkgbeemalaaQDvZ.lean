import Derived.Test.YtpckdkgbeemalaaQDzG
import Derived.Test.YtpckdkgbeemalaaQDv9
namespace Go.Proofs.Ytpckdkgbeemalaa
open Go.RowKit

/-! The landed device owes what journal's laws ask of a device. -/
theorem dvOk : DvOk DevIs where
  keeps := fun ⟨r, vl, vp, ps, sp, e, h⟩ hK hd => ⟨r, vl, vp, ps, sp, e, h.keeps hK hd⟩
  sub := fun ⟨_, _, _, _, _, _, h⟩ => h.sub
  lt := fun ⟨_, _, _, _, _, _, h⟩ => h.lt
  ok := fun ⟨_, _, _, _, _, _, h⟩ => h.ok
  ptr := fun ⟨_, _, _, _, _, e, _⟩ => ⟨_, e⟩
  new := fun w x n c ss h1 h2 h3 => devNew w x n c ss h1 h2 h3
  acts := devActs
  down := devDown
  write := fun w d st F R a s h h1 h2 _ _ => devWrite w d st F R a s h h1 h2
  stop := devStop
  restart := fun w d st F R xb nb cb bs h h1 h2 _ h4 h5 => devRestart w d st F R xb nb cb bs h h1 h2 h4 h5
  sectors := devSectors
  durable := devDurable
  pending := devPending
end Go.Proofs.Ytpckdkgbeemalaa
