/- Contract of travel.Reach at a valid table. -/
import Derived.Test.YtmmikihkfpkapaaGreatTravAC
namespace Go.Proofs.YtmmikihkfpkapaaGreat
open Go.RowKit
namespace Trav
end Trav
end Go.Proofs.YtmmikihkfpkapaaGreat
