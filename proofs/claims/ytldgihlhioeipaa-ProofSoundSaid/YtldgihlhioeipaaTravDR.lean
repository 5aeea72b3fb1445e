/- TravDR: texts joined. -/
import Derived.Test.YtldgihlhioeipaaTravAC
/- Contracts of package travel, whatever the valid table: Distances. -/
namespace Go.Proofs.Ytldgihlhioeipaa
open Go.RowKit
namespace Trav
end Trav
end Go.Proofs.Ytldgihlhioeipaa

/- Roots of squares; the table of the examples in memory. -/
namespace Go.Proofs.Ytldgihlhioeipaa
open Go.RowKit
namespace Trav
theorem blk_new (w : World) (o : Obj) : (w.alloc o).heap[w.heap.size]? = some o := heap_alloc_new _ _
theorem blk_alloc {w : World} {g : Nat} {o : Obj} (h : w.heap[g]? = some o) (o' : Obj) : (w.alloc o').heap[g]? = some o := blk_b (new_block _) h
end Trav
end Go.Proofs.Ytldgihlhioeipaa

/- Contract of travel.Reach at a valid table. -/
namespace Go.Proofs.Ytldgihlhioeipaa
open Go.RowKit
namespace Trav
end Trav
end Go.Proofs.Ytldgihlhioeipaa

/- The examples of the chapter on travel times. -/
namespace Go.Proofs.Ytldgihlhioeipaa
open Go.RowKit
namespace Trav
end Trav
end Go.Proofs.Ytldgihlhioeipaa
