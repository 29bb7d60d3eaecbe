/- log.Sorted: all of a log, one behind the other, at each place of those that fit the one of the least author. -/
import Derived.Test.YtihedgnachophaaGreatSortI
import Derived.Deep.RegionWith
namespace Go.Proofs.YtihedgnachophaaGreat
open Go.RowKit

end Go.Proofs.YtihedgnachophaaGreat
