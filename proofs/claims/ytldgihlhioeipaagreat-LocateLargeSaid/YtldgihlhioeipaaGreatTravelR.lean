/- Contract of travel.Reach at a valid table. -/
import Derived.Test.YtldgihlhioeipaaGreatTravAC
namespace Go.Proofs.YtldgihlhioeipaaGreat
open Go.RowKit
namespace Trav
end Trav
end Go.Proofs.YtldgihlhioeipaaGreat
