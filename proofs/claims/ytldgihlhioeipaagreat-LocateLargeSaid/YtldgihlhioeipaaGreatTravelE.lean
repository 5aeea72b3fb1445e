/- The examples of the chapter on travel times. -/
import Derived.Test.YtldgihlhioeipaaGreatTravelD
import Derived.Test.YtldgihlhioeipaaGreatTravelF
import Derived.Test.YtldgihlhioeipaaGreatTravelR
namespace Go.Proofs.YtldgihlhioeipaaGreat
open Go.RowKit
namespace Trav
def SampleSaid (e : Ending) (w' : World) : Prop := ∃ b1 b2 : Nat, e = .returned (.agg #[.int .i64 1000, .slice (some ⟨b1, 0, none⟩) 3 3, .slice (some ⟨b2, 0, none⟩) 3 3]) ∧ TV w' 1000 b1 b2 3 [0, 150, 320] [0, 200, 400]
end Trav
end Go.Proofs.YtldgihlhioeipaaGreat
