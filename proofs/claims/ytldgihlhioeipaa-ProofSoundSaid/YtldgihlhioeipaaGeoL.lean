/- Contracts of package geometry: Hull, whatever the valid boxes. -/
import Derived.Test.YtldgihlhioeipaaGeoK
import Derived.Test.YtldgihlhioeipaaGeoCE
import Derived.BigRegion
namespace Go.Proofs.Ytldgihlhioeipaa
open Go.RowKit
namespace Geo
end Geo
end Go.Proofs.Ytldgihlhioeipaa
