/- The walk of GeometryTriangle. -/
import Derived.Test.YtnlfgpdnodfoiaaPlace
import Derived.Test.YtnlfgpdnodfoiaaGeoG
namespace Go.Proofs.Ytnlfgpdnodfoiaa
open Go.RowKit
namespace Geo
theorem cs (p1 p2 p3 q1 q2 q3 : Int) : (p1*p1+p2*p2+p3*p3)*(q1*q1+q2*q2+q3*q3) = (p1*q1+p2*q2+p3*q3)*(p1*q1+p2*q2+p3*q3) + (p1*q2-p2*q1)*(p1*q2-p2*q1) + (p1*q3-p3*q1)*(p1*q3-p3*q1) + (p2*q3-p3*q2)*(p2*q3-p3*q2) := by grind
theorem sq_nonneg (u : Int) : 0 ≤ u * u := by
  by_cases h : 0 ≤ u
  · exact Int.mul_nonneg h h
  · have := Int.mul_nonneg (show 0 ≤ -u by omega) (show 0 ≤ -u by omega); rwa [Int.neg_mul_neg] at this
theorem sum_sq (a b c d e f x y z : Int) : sq3 a b c x y z = sq3 a b c d e f + sq3 d e f x y z + 2 * ((a - d) * (d - x) + (b - e) * (e - y) + (c - f) * (f - z)) := by
  unfold sq3; grind
theorem sq3_nonneg (a b c d e f : Int) : 0 ≤ sq3 a b c d e f := by
  unfold sq3
  have h1 := sq_nonneg (a - d)
  have h2 := sq_nonneg (b - e)
  have h3 := sq_nonneg (c - f)
  omega
theorem sq3_comm (a b c d e f : Int) : sq3 d e f a b c = sq3 a b c d e f := by unfold sq3; grind
theorem sq3_zero {a b c d e f : Int} (h : sq3 a b c d e f = 0) : a = d ∧ b = e ∧ c = f := by
  unfold sq3 at h
  have h1 := sq_nonneg (a - d)
  have h2 := sq_nonneg (b - e)
  have h3 := sq_nonneg (c - f)
  have e1 : (a - d) * (a - d) = 0 := by omega
  have e2 : (b - e) * (b - e) = 0 := by omega
  have e3 : (c - f) * (c - f) = 0 := by omega
  have k1 := Int.mul_eq_zero.1 e1
  have k2 := Int.mul_eq_zero.1 e2
  have k3 := Int.mul_eq_zero.1 e3
  omega
theorem sq3_bd {a b c d e f : Int} (h1 : PV a b c) (h2 : PV d e f) : sq3 a b c d e f ≤ 13194139533312 := by
  obtain ⟨ax0, ax1, ay0, ay1, az0, az1⟩ := h1
  obtain ⟨bx0, bx1, by0, by1, bz0, bz1⟩ := h2
  unfold sq3
  have s1 := (sq_bd (show -2097152 ≤ a - d by omega) (show a - d ≤ 2097152 by omega)).2
  have s3 := (sq_bd (show -2097152 ≤ b - e by omega) (show b - e ≤ 2097152 by omega)).2
  have s5 := (sq_bd (show -2097152 ≤ c - f by omega) (show c - f ≤ 2097152 by omega)).2
  omega
theorem ce_spec (n : Int) (n0 : 0 ≤ n) (n1 : n ≤ 4611686018427387904) : 0 ≤ Root.ce n ∧ Root.ce n ≤ Root.rt n 32 + 1 ∧ n ≤ Root.ce n * Root.ce n := by
  obtain ⟨r0, _, s0, s1⟩ := Root.rt_spec n n0 n1
  unfold Root.ce
  split
  · exact ⟨by omega, Int.le_refl _, by omega⟩
  · exact ⟨r0, by omega, by omega⟩
/-- The triangle inequality, up to rounding. -/
theorem tri (a b c d e f x y z u v r : Int) (u0 : 0 ≤ u) (v0 : 0 ≤ v) (r0 : 0 ≤ r) (hu : sq3 a b c d e f ≤ u * u) (hv : sq3 d e f x y z ≤ v * v) (hr : r * r ≤ sq3 a b c x y z) : r ≤ u + v := by
  have hs := sum_sq a b c d e f x y z
  have hc := cs (a - d) (b - e) (c - f) (d - x) (e - y) (f - z)
  have n1 := sq3_nonneg a b c d e f
  have n2 := sq3_nonneg d e f x y z
  have e1 : (a - d) * (a - d) + (b - e) * (b - e) + (c - f) * (c - f) = sq3 a b c d e f := rfl
  have e2 : (d - x) * (d - x) + (e - y) * (e - y) + (f - z) * (f - z) = sq3 d e f x y z := rfl
  rw [e1, e2] at hc
  generalize (a - d) * (d - x) + (b - e) * (e - y) + (c - f) * (f - z) = D at *
  have m1 := sq_nonneg ((a - d) * (e - y) - (b - e) * (d - x))
  have m2 := sq_nonneg ((a - d) * (f - z) - (c - f) * (d - x))
  have m3 := sq_nonneg ((b - e) * (f - z) - (c - f) * (e - y))
  have k1 : sq3 a b c d e f * sq3 d e f x y z ≤ (u * u) * (v * v) := Int.mul_le_mul hu hv n2 (sq_nonneg u)
  have k2 : (u * u) * (v * v) = (u * v) * (u * v) := by grind
  have uv0 : 0 ≤ u * v := Int.mul_nonneg u0 v0
  have kD : D ≤ u * v := by
    by_cases hD : 0 ≤ D
    · exact Root.sq_le_of hD (by omega) uv0
    · omega
  have k3 : (u + v) * (u + v) = u * u + v * v + 2 * (u * v) := by grind
  exact Root.sq_le_of r0 (by omega) (by omega)
/-- A block of a position holds its cells in later worlds. -/
theorem pcells {W w : World} {k : Nat} {x y z : Value} {t : TypeId} (h : Hid (W.heap[k]? = some (.cells #[x, y, z] t (0, 0)))) (hC : Below W.heap.size W w) : w.cell? ⟨k, 0, none⟩ = some x ∧ w.cell? ⟨k, 1, none⟩ = some y ∧ w.cell? ⟨k, 2, none⟩ = some z := by
  obtain ⟨a, b, c, _, _, _⟩ := cells3 (blk_b hC h.out)
  exact ⟨a, b, c⟩
theorem calm0 {P : Program} {f : FuncId} {args : Array Value} {W w : World} {v : Value} (hC : Below W.heap.size W w) (h : Calls P f args w fun e w' => e = .returned v ∧ w' = w) :
    Calls P f args w fun e w' => e = .returned v ∧ Below W.heap.size W w' := h.mono fun _ _ ⟨he, hb⟩ => ⟨he, by rw [hb]; exact hC⟩
end Geo
namespace Laws
set_option maxHeartbeats 4000000 in
set_option maxRecDepth 100000 in
theorem geometryTriangle_walk (a0 : Option Addr) (len0 cap0 : Nat) (z0 : List Int) (w : World) (w0 : Buf.IsRow .i64 w a0 len0 cap0 z0) :
    Calls Try.prog 5 #[.slice a0 len0 cap0] w fun e w' => e = .returned (.bool true) ∧ Below w.heap.size w w' := by
  go_enter Try.func5, Try.ntmps5
  go_wp2_with fail
  refine (Src.new_any a0 len0 cap0 z0 w w0).mono ?_
  rintro e wA ⟨rfl, n, hd⟩
  have hne : Hid (w.heap.size = w.heap.size) := Lib.hid rfl
  have L0 := Lib.hid (Src.Left.refl hd)
  clear hd w0
  go_wp2_with fail
  refine (Src.position_any _ L0.out.di (by omega) (by omega)).mono ?_
  rintro e w1 ⟨⟨x1, y1, z1, rfl, v1⟩, hl⟩
  replace L0 := Lib.hid (L0.out.trans hl)
  clear hl
  go_wp2_with fail
  refine (Src.position_any _ L0.out.di (by omega) (by omega)).mono ?_
  rintro e w2 ⟨⟨x2, y2, z2, rfl, v2⟩, hl⟩
  replace L0 := Lib.hid (L0.out.trans hl)
  clear hl
  go_wp2_with fail
  refine (Src.position_any _ L0.out.di (by omega) (by omega)).mono ?_
  rintro e w3 ⟨⟨x3, y3, z3, rfl, v3⟩, hl⟩
  replace L0 := Lib.hid (L0.out.trans hl)
  clear hl
  have hb := Lib.hid L0.out.di.bel
  clear L0
  have g1 := Lib.hid (Geo.blk_alloc (Geo.blk_alloc (Geo.blk_new w3 (.cells #[.int .i64 x1, .int .i64 y1, .int .i64 z1] 23)) (.cells #[.int .i64 x2, .int .i64 y2, .int .i64 z2] 23)) (.cells #[.int .i64 x3, .int .i64 y3, .int .i64 z3] 23))
  have g2 := Lib.hid (Geo.blk_alloc (Geo.blk_new1 w3 (.cells #[.int .i64 x1, .int .i64 y1, .int .i64 z1] 23) (.cells #[.int .i64 x2, .int .i64 y2, .int .i64 z2] 23)) (.cells #[.int .i64 x3, .int .i64 y3, .int .i64 z3] 23))
  have g3 := Lib.hid (Geo.blk_new2 w3 (.cells #[.int .i64 x1, .int .i64 y1, .int .i64 z1] 23) (.cells #[.int .i64 x2, .int .i64 y2, .int .i64 z2] 23) (.cells #[.int .i64 x3, .int .i64 y3, .int .i64 z3] 23))
  replace hb := Lib.hid (Geo.bl_alloc (Geo.bl_alloc (Geo.bl_alloc hb.out (o := (.cells #[.int .i64 x1, .int .i64 y1, .int .i64 z1] 23))) (o := (.cells #[.int .i64 x2, .int .i64 y2, .int .i64 z2] 23))) (o := (.cells #[.int .i64 x3, .int .i64 y3, .int .i64 z3] 23)))
  have Sac := Lib.hid (Geo.square_yes x1 y1 z1 x3 y3 z3 v1 v3)
  have qac := Geo.sq3_bd v1 v3
  have pac := Geo.sq3_nonneg x1 y1 z1 x3 y3 z3
  have Sab := Lib.hid (Geo.square_yes x1 y1 z1 x2 y2 z2 v1 v2)
  have qab := Geo.sq3_bd v1 v2
  have pab := Geo.sq3_nonneg x1 y1 z1 x2 y2 z2
  have Sbc := Lib.hid (Geo.square_yes x2 y2 z2 x3 y3 z3 v2 v3)
  have qbc := Geo.sq3_bd v2 v3
  have pbc := Geo.sq3_nonneg x2 y2 z2 x3 y3 z3
  have Sba := Lib.hid (Geo.square_yes x2 y2 z2 x1 y1 z1 v2 v1)
  have qba := Geo.sq3_bd v2 v1
  have pba := Geo.sq3_nonneg x2 y2 z2 x1 y1 z1
  have F := Lib.hid fun w => Root.floor_any (Geo.sq3 x1 y1 z1 x3 y3 z3) w pac (by omega)
  have C1 := Lib.hid fun w => Root.ceil_any (Geo.sq3 x1 y1 z1 x2 y2 z2) w pab (by omega)
  have C2 := Lib.hid fun w => Root.ceil_any (Geo.sq3 x2 y2 z2 x3 y3 z3) w pbc (by omega)
  obtain ⟨r0, r1, r2, _⟩ := Root.rt_spec (Geo.sq3 x1 y1 z1 x3 y3 z3) pac (by omega)
  obtain ⟨c0, c1, c2⟩ := Geo.ce_spec (Geo.sq3 x1 y1 z1 x2 y2 z2) pab (by omega)
  obtain ⟨d0, d1, d2⟩ := Geo.ce_spec (Geo.sq3 x2 y2 z2 x3 y3 z3) pbc (by omega)
  have u1 := (Root.rt_spec (Geo.sq3 x1 y1 z1 x2 y2 z2) pab (by omega)).2.1
  have u2 := (Root.rt_spec (Geo.sq3 x2 y2 z2 x3 y3 z3) pbc (by omega)).2.1
  have T := Geo.tri x1 y1 z1 x2 y2 z2 x3 y3 z3 _ _ _ c0 d0 r0 c2 d2 r2
  have hz := Lib.hid (fun h : Geo.sq3 x1 y1 z1 x2 y2 z2 = 0 => Geo.sq3_zero h)
  have hq : Hid (∀ h : x1 = x2 ∧ y1 = y2 ∧ z1 = z2, Geo.sq3 x1 y1 z1 x2 y2 z2 = 0) := Lib.hid (by rintro ⟨rfl, rfl, rfl⟩; unfold Geo.sq3; simp)
  have Sba' : Hid (∀ w, Calls Try.prog 18 #[.agg #[.int .i64 x2, .int .i64 y2, .int .i64 z2], .agg #[.int .i64 x1, .int .i64 y1, .int .i64 z1]] w fun r w' => r = .returned (.int .i64 (Geo.sq3 x1 y1 z1 x2 y2 z2)) ∧ Below w.heap.size w w') := Lib.hid (by have := Sba.out; rwa [Geo.sq3_comm x1 y1 z1 x2 y2 z2] at this)
  clear Sba qba pba v1 v2 v3 r2 c2 d2
  generalize Geo.sq3 x1 y1 z1 x3 y3 z3 = sac at *
  generalize Geo.sq3 x1 y1 z1 x2 y2 z2 = sab at *
  generalize Geo.sq3 x2 y2 z2 x3 y3 z3 = sbc at *
  generalize Root.rt sac 32 = fl at *
  generalize Root.ce sab = ca at *
  generalize Root.ce sbc = cb at *
  have hd : decide (fl ≤ ca + cb) = true := by simpa using T
  have k1 : ca ≤ 2147483649 := by omega
  have k2 : cb ≤ 2147483649 := by omega
  have k3 : wrap64 (ca + cb) = ca + cb := IntWalk.wrap64_in _ (by omega)
  clear c1 d1 u1 u2
  go_wp2_with fail
  have hsz : Hid (((w3.alloc (.cells #[.int .i64 x1, .int .i64 y1, .int .i64 z1] 23)).alloc (.cells #[.int .i64 x2, .int .i64 y2, .int .i64 z2] 23)).alloc (.cells #[.int .i64 x3, .int .i64 y3, .int .i64 z3] 23) = ((w3.alloc (.cells #[.int .i64 x1, .int .i64 y1, .int .i64 z1] 23)).alloc (.cells #[.int .i64 x2, .int .i64 y2, .int .i64 z2] 23)).alloc (.cells #[.int .i64 x3, .int .i64 y3, .int .i64 z3] 23)) := Lib.hid rfl
  generalize ((w3.alloc (.cells #[.int .i64 x1, .int .i64 y1, .int .i64 z1] 23)).alloc (.cells #[.int .i64 x2, .int .i64 y2, .int .i64 z2] 23)).alloc (.cells #[.int .i64 x3, .int .i64 y3, .int .i64 z3] 23) = wz at *
  clear hsz
  by_cases hE : x1 = x2 ∧ y1 = y2 ∧ z1 = z2
  · have h0 : sab = 0 := hq.out hE
    subst h0
    have e1 : (x1 == x2) = true := by simp [hE.1]
    have e2 : (y1 == y2) = true := by simp [hE.2.1]
    have e3 : (z1 == z2) = true := by simp [hE.2.2]
    clear hE hz hq
    refine Buf.region_calm wz (by kernel_rfl) (by kernel_rfl) (Below.refl _ _) ?_
    repeat (go_big_quiet_step ((intro hC; first
      | (go_at_call 18; first | (with_reducible exact Buf.calm hC (Sac.out _)) | (with_reducible exact Buf.calm hC (Sab.out _)) | (with_reducible exact Buf.calm hC (Sbc.out _)) | (with_reducible exact Buf.calm hC (Sba'.out _)))
      | (go_at_call 9; (with_reducible exact Geo.calm0 hC (F.out _)))
      | (go_at_call 11; first | (with_reducible exact Geo.calm0 hC (C1.out _)) | (with_reducible exact Geo.calm0 hC (C2.out _)))
      | (go_at_call 20; exact Buf.calm hC (Geo.awake_any _))
      | rfl
      | (simp only [(Geo.pcells g1 hC).1, (Geo.pcells g1 hC).2.1, (Geo.pcells g1 hC).2.2, Result.andThen_ok]; exact ⟨trivial, rfl⟩)
      | (simp only [(Geo.pcells g2 hC).1, (Geo.pcells g2 hC).2.1, (Geo.pcells g2 hC).2.2, Result.andThen_ok]; exact ⟨trivial, rfl⟩)
      | (simp only [(Geo.pcells g3 hC).1, (Geo.pcells g3 hC).2.1, (Geo.pcells g3 hC).2.2, Result.andThen_ok]; exact ⟨trivial, rfl⟩))))
    refine wpQuiet_nil ?_
    intro w5 hb5
    go_wp2
    go_ret
    exact ⟨rfl, Buf.then_ hb.out hb5⟩
  · have h0 : (sab == 0) = false := by rw [beq_eq_false_iff_ne]; exact fun h => hE (hz.out h)
    have hC : ((x1 == x2) = false) ∨ ((x1 == x2) = true ∧ (y1 == y2) = false) ∨ ((x1 == x2) = true ∧ (y1 == y2) = true ∧ (z1 == z2) = false) := by
      simp only [beq_eq_false_iff_ne, beq_iff_eq]; omega
    clear hE hz hq
    rcases hC with e1 | ⟨e1, e2⟩ | ⟨e1, e2, e3⟩
    all_goals
      refine Buf.region_calm wz (by kernel_rfl) (by kernel_rfl) (Below.refl _ _) ?_
      repeat (go_big_quiet_step ((intro hC; first
        | (go_at_call 18; first | (with_reducible exact Buf.calm hC (Sac.out _)) | (with_reducible exact Buf.calm hC (Sab.out _)) | (with_reducible exact Buf.calm hC (Sbc.out _)) | (with_reducible exact Buf.calm hC (Sba'.out _)))
        | (go_at_call 9; (with_reducible exact Geo.calm0 hC (F.out _)))
        | (go_at_call 11; first | (with_reducible exact Geo.calm0 hC (C1.out _)) | (with_reducible exact Geo.calm0 hC (C2.out _)))
        | (go_at_call 20; exact Buf.calm hC (Geo.awake_any _))
        | rfl
        | (simp only [(Geo.pcells g1 hC).1, (Geo.pcells g1 hC).2.1, (Geo.pcells g1 hC).2.2, Result.andThen_ok]; exact ⟨trivial, rfl⟩)
        | (simp only [(Geo.pcells g2 hC).1, (Geo.pcells g2 hC).2.1, (Geo.pcells g2 hC).2.2, Result.andThen_ok]; exact ⟨trivial, rfl⟩)
        | (simp only [(Geo.pcells g3 hC).1, (Geo.pcells g3 hC).2.1, (Geo.pcells g3 hC).2.2, Result.andThen_ok]; exact ⟨trivial, rfl⟩))))
      refine wpQuiet_nil ?_
      intro w5 hb5
      go_wp2
      go_ret
      exact ⟨rfl, Buf.then_ hb.out hb5⟩
end Laws
end Go.Proofs.Ytnlfgpdnodfoiaa
