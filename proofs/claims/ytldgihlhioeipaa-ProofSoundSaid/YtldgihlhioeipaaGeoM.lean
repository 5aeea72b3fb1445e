/- Facts of boxes and their hulls. -/
import Derived.Test.YtldgihlhioeipaaGeoL
namespace Go.Proofs.Ytldgihlhioeipaa
open Go.RowKit
namespace Geo
end Geo
end Go.Proofs.Ytldgihlhioeipaa
