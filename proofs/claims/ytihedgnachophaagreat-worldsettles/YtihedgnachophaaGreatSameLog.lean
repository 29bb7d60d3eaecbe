/- The document's own SameLog answers true of two logs that read as the same updates. -/
import Derived.Test.YtihedgnachophaaGreatLogC
namespace Go.Proofs.YtihedgnachophaaGreat
open Go.RowKit

end Go.Proofs.YtihedgnachophaaGreat
