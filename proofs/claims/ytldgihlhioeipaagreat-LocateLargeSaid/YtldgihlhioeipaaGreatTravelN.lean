/- Contract of travel.Interval at a valid table and valid positions. -/
import Derived.Test.YtldgihlhioeipaaGreatTravelL
namespace Go.Proofs.YtldgihlhioeipaaGreat
open Go.RowKit
namespace Trav
theorem sq3_bd {a b c d e f : Int} (h1 : Geo.PV a b c) (h2 : Geo.PV d e f) : 0 ≤ Geo.sq3 a b c d e f ∧ Geo.sq3 a b c d e f ≤ 13194139533312 := by
  obtain ⟨ax0, ax1, ay0, ay1, az0, az1⟩ := h1
  obtain ⟨bx0, bx1, by0, by1, bz0, bz1⟩ := h2
  obtain ⟨s0, s1⟩ := Geo.sq_bd (show -2097152 ≤ a - d by omega) (show a - d ≤ 2097152 by omega)
  obtain ⟨s2, s3⟩ := Geo.sq_bd (show -2097152 ≤ b - e by omega) (show b - e ≤ 2097152 by omega)
  obtain ⟨s4, s5⟩ := Geo.sq_bd (show -2097152 ≤ c - f by omega) (show c - f ≤ 2097152 by omega)
  unfold Geo.sq3
  omega
theorem bel3 (w : World) (o p q : Obj) : Below w.heap.size w (((w.alloc o).alloc p).alloc q) := Buf.then_ (bel2 o p) (new_block q)
theorem blk3a (w : World) (o p q : Obj) : (((w.alloc o).alloc p).alloc q).heap[w.heap.size]? = some o := blk_alloc (blk_alloc (blk_new w o) p) q
theorem blk3b (w : World) (o p q : Obj) : (((w.alloc o).alloc p).alloc q).heap[w.heap.size + 1]? = some p := blk_alloc (Geo.blk_new1 w o p) q
theorem blk3c (w : World) (o p q : Obj) : (((w.alloc o).alloc p).alloc q).heap[w.heap.size + 1 + 1]? = some q := Geo.blk_new2 w o p q
end Trav
end Go.Proofs.YtldgihlhioeipaaGreat
