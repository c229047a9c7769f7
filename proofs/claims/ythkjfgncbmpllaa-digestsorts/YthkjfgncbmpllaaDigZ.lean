
import Derived.Test.YthkjfgncbmpllaaDigQ2
import Derived.Test.YthkjfgncbmpllaaDsI
import Derived.Test.YthkjfgncbmpllaaDigK3
namespace Go.Proofs.Ythkjfgncbmpllaa
/-! All that digest owes -/
theorem knownOk : KnownOk := known_any textOk parseOk compareOk sortedOk
end Go.Proofs.Ythkjfgncbmpllaa
