
import Derived.Test.YtligjfofnafjeaaFow
import Derived.Test.YtligjfofnafjeaaFor9
namespace Go.Proofs.Ytligjfofnafjeaa

/-! The landed forest keeps what the statements ask of it -/
theorem forOk : ForOk where
  of := fun l x n c w hn h hs hl => ofZ l x n c w hn (by omega) hs hl
  is := fun l x n c w hn h hs hl => isZ l x n c w hn (by omega) hs hl
end Go.Proofs.Ytligjfofnafjeaa
