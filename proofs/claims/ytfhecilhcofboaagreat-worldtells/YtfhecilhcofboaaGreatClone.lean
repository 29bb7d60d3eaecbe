/- slices.Clone of a log: a row of the call's own, with the same updates. -/
import Derived.Test.YtfhecilhcofboaaGreatLogC
import Derived.Test.YtfhecilhcofboaaGreatGrow
import Derived.Deep.RegionLaw
namespace Go.Proofs.YtfhecilhcofboaaGreat
open Go.RowKit

end Go.Proofs.YtfhecilhcofboaaGreat
/- slices.Delete of one update out of a row of the call's own. -/
namespace Go.Proofs.YtfhecilhcofboaaGreat
open Go.RowKit

end Go.Proofs.YtfhecilhcofboaaGreat
