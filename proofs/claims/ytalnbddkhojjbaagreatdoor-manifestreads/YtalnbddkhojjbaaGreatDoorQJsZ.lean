import Derived.Test.YtalnbddkhojjbaaGreatDoorQJzk
import Derived.Test.YtalnbddkhojjbaaGreatDoorQJzr
namespace Go.Proofs.YtalnbddkhojjbaaGreatDoor
open Go.RowKit

theorem jsOk : JsOk VJ where
  keep := fun _ _ h hb => h.keep hb
  prs := fun l x L c w hL hLc h47 hl hV => (parse15_any l x L c w hL hLc h47 hl hV.1).mono fun _ _ h => h.jp
  own := fun l x L c w hL hLc h47 hl hV => parse15_any l x L c w hL hLc h47 hl hV.1
  prt := fun d F v w hv hsz hd hV => print15_any d F v w hv hsz hd hV
  fld := fun d F v s w hv hd _ => field15_any d F v s w hv hd
end Go.Proofs.YtalnbddkhojjbaaGreatDoor
