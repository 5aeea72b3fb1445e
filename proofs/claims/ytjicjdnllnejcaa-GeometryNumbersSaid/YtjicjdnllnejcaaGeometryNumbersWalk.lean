/- The walk of GeometryNumbers. -/
import Derived.Test.YtjicjdnllnejcaaGeoU
import Derived.Test.YtjicjdnllnejcaaGeoG
import Derived.Test.YtjicjdnllnejcaaPos
import Derived.Deep.DeepCutAuto
import Derived.Deep.RegionHeld3
namespace Go.Proofs.Ytjicjdnllnejcaa
open Go.RowKit
namespace Laws
theorem row_below {k : IntKind} {w w' : World} {a : Option Addr} {len cap : Nat} {zs : List Int} (h : Buf.IsRow k w a len cap zs) (hb : Below w.heap.size w w') : Buf.IsRow k w' a len cap zs := by
  rcases h with h | ⟨x, rfl, h1, h2, h3, h4, h5⟩
  · exact .inl h
  · exact .inr ⟨x, rfl, h1, h2, h3, fun i hi => Geo.keepc hb (h4 i hi), h5⟩
theorem tc {w : World} {g : Nat} {x y z : Value} {t : TypeId} (h : w.heap[g]? = some (.cells #[x, y, z] t (0, 0))) : w.cell? ⟨g, 0, none⟩ = some x ∧ w.cell? ⟨g, 1, none⟩ = some y ∧ w.cell? ⟨g, 2, none⟩ = some z :=
  ⟨cell_of_row w g 0 _ _ _ h, cell_of_row w g 1 _ _ _ h, cell_of_row w g 2 _ _ _ h⟩
theorem elems (x1 y1 u1 x2 y2 u2 x3 y3 u3 x4 y4 u4 : Int) (g k : Nat) (hk : k < 4) : ∃ a b c : Int, ∀ w : World, w.heap[g]? = some (.cells #[.int .i64 x1, .int .i64 y1, .int .i64 u1, .int .i64 x2, .int .i64 y2, .int .i64 u2, .int .i64 x3, .int .i64 y3, .int .i64 u3, .int .i64 x4, .int .i64 y4, .int .i64 u4] 23 (0, 0)) → w.cell? ⟨g, k * 3, none⟩ = some (.int .i64 a) ∧ w.cell? ⟨g, k * 3 + 1, none⟩ = some (.int .i64 b) ∧ w.cell? ⟨g, k * 3 + 2, none⟩ = some (.int .i64 c) := by
  rcases (by omega : k = 0 ∨ k = 1 ∨ k = 2 ∨ k = 3) with rfl | rfl | rfl | rfl
  · exact ⟨x1, y1, u1, fun w h => ⟨cell_of_row w g 0 _ _ _ h, cell_of_row w g 1 _ _ _ h, cell_of_row w g 2 _ _ _ h⟩⟩
  · exact ⟨x2, y2, u2, fun w h => ⟨cell_of_row w g 3 _ _ _ h, cell_of_row w g 4 _ _ _ h, cell_of_row w g 5 _ _ _ h⟩⟩
  · exact ⟨x3, y3, u3, fun w h => ⟨cell_of_row w g 6 _ _ _ h, cell_of_row w g 7 _ _ _ h, cell_of_row w g 8 _ _ _ h⟩⟩
  · exact ⟨x4, y4, u4, fun w h => ⟨cell_of_row w g 9 _ _ _ h, cell_of_row w g 10 _ _ _ h, cell_of_row w g 11 _ _ _ h⟩⟩
set_option maxHeartbeats 8000000 in
set_option maxRecDepth 100000 in
theorem geometryNumbers_walk (a0 : Int) (x1 y1 u1 : Int) (x2 y2 u2 : Int) (a3 : Option Addr) (len3 cap3 : Nat) (z3 : List Int) (w : World) (w0 : (Lit.int .i64 a0).wf = true) (_p1 : (Lit.int .i64 x1).wf = true) (_q1 : (Lit.int .i64 y1).wf = true) (_r1 : (Lit.int .i64 u1).wf = true) (_p2 : (Lit.int .i64 x2).wf = true) (_q2 : (Lit.int .i64 y2).wf = true) (_r2 : (Lit.int .i64 u2).wf = true) (w3 : Buf.IsRow .i64 w a3 len3 cap3 z3) :
    Calls Try.prog 3 #[.int .i64 a0, .agg #[.int .i64 x1, .int .i64 y1, .int .i64 u1], .agg #[.int .i64 x2, .int .i64 y2, .int .i64 u2], .slice a3 len3 cap3] w fun e w' => e = .returned (.bool true) ∧ Below w.heap.size w w' := by
  obtain ⟨_, A9⟩ := Ma.wf_i64 w0
  have h1 := Lib.hid (Geo.blk_alloc (Geo.blk_new w (.cells #[.int .i64 x1, .int .i64 y1, .int .i64 u1] 23)) (.cells #[.int .i64 x2, .int .i64 y2, .int .i64 u2] 23))
  have h2 := Lib.hid (Geo.blk_new1 w (.cells #[.int .i64 x1, .int .i64 y1, .int .i64 u1] 23) (.cells #[.int .i64 x2, .int .i64 y2, .int .i64 u2] 23))
  have hA : Hid (Below w.heap.size w ((w.alloc (.cells #[.int .i64 x1, .int .i64 y1, .int .i64 u1] 23)).alloc (.cells #[.int .i64 x2, .int .i64 y2, .int .i64 u2] 23))) := Lib.hid (Buf.then_ (Geo.new_block _) (Geo.new_block _))
  have hrow := Lib.hid (row_below w3 hA.out)
  clear w0 _p1 _q1 _r1 _p2 _q2 _r2 w3
  go_enter Try.func3, Try.ntmps3
  go_wp2_with fail
  obtain ⟨W2, hW2⟩ : ∃ W2, W2 = (w.alloc (.cells #[.int .i64 x1, .int .i64 y1, .int .i64 u1] 23)).alloc (.cells #[.int .i64 x2, .int .i64 y2, .int .i64 u2] 23) := ⟨_, rfl⟩
  rw [← hW2] at h1 h2 hA hrow ⊢
  clear hW2
  have sz : w.heap.size + 1 < W2.heap.size := (Array.getElem?_eq_some_iff.1 h2.out).1
  refine (Src.new_any a3 len3 cap3 z3 _ hrow.out).mono ?_
  rintro e0 wA ⟨rfl, m, hd⟩
  have L0 := Lib.hid (Src.Left.refl hd)
  replace h1 := Lib.hid (Geo.blk_b hd.bel h1.out)
  replace h2 := Lib.hid (Geo.blk_b hd.bel h2.out)
  have ne1 : w.heap.size ≠ W2.heap.size := by omega
  have ne2 : w.heap.size + 1 ≠ W2.heap.size := by omega
  clear hd hrow
  go_wp2_with fail
  refine (Src.n_any _ L0.out.di (by omega) (by omega)).mono ?_
  rintro e0 w4 ⟨⟨x, rfl, x0, xx⟩, hl⟩
  replace h1 := Lib.hid (hl.blk h1.out ne1)
  replace h2 := Lib.hid (hl.blk h2.out ne2)
  replace L0 := Lib.hid (L0.out.trans hl)
  clear hl
  go_wp2_with fail
  refine (Src.n_any _ L0.out.di (by omega) (by omega)).mono ?_
  rintro e0 w5 ⟨⟨y, rfl, y0, yy⟩, hl⟩
  replace h1 := Lib.hid (hl.blk h1.out ne1)
  replace h2 := Lib.hid (hl.blk h2.out ne2)
  replace L0 := Lib.hid (L0.out.trans hl)
  clear hl
  go_wp2_with fail
  have I1 := Lib.hid (Src.ints_alloc w5 [a0, x, y, -1, 0] 3)
  replace h1 := Lib.hid (Geo.blk_alloc h1.out (.cells #[.int .i64 a0, .int .i64 x, .int .i64 y, .int .i64 (-1), .int .i64 0] 3))
  replace h2 := Lib.hid (Geo.blk_alloc h2.out (.cells #[.int .i64 a0, .int .i64 x, .int .i64 y, .int .i64 (-1), .int .i64 0] 3))
  replace L0 := Lib.hid (L0.out.alloc (.cells #[.int .i64 a0, .int .i64 x, .int .i64 y, .int .i64 (-1), .int .i64 0] 3))
  have V9 : Hid (∀ k : Nat, k < 5 → [a0, x, y, -1, 0].getD k 0 ≤ 9223372036854775807) := Lib.hid fun k hk => by
    rcases (by omega : k = 0 ∨ k = 1 ∨ k = 2 ∨ k = 3 ∨ k = 4) with rfl | rfl | rfl | rfl | rfl <;> simp <;> omega
  have I2 : Hid (∀ k : Nat, k < 5 → (w5.alloc (.cells #[.int .i64 a0, .int .i64 x, .int .i64 y, .int .i64 (-1), .int .i64 0] 3)).cell? ⟨w5.heap.size, k, none⟩ = some (.int .i64 ([a0, x, y, -1, 0].getD k 0))) := Lib.hid fun k hk => I1.out k (by simpa using hk)
  obtain ⟨zs, hzs⟩ : ∃ zs, zs = [a0, x, y, -1, 0] := ⟨_, rfl⟩
  rw [← hzs] at V9 I2
  clear hzs I1
  obtain ⟨wS, hwS⟩ : ∃ wS, wS = w5.alloc (.cells #[.int .i64 a0, .int .i64 x, .int .i64 y, .int .i64 (-1), .int .i64 0] 3) := ⟨_, rfl⟩
  rw [← hwS] at h1 h2 L0 I2 ⊢
  clear hwS
  go_loop [26] (fun i => ∃ k : Nat, k ≤ 5 ∧ i = .int .i64 k) (fun i => (5 - intOf i).toNat)
  case atStart => exact ⟨0, by omega, rfl⟩
  case round =>
    obtain ⟨k, hk, rfl⟩ := hrel
    by_cases hlt : k < 5
    · have hlt' : (k : Int) < 5 := by omega
      have c1 := I2.out k hlt
      have v9 := V9.out k hlt
      generalize zs.getD k 0 = v at *
      have F1 := Lib.hid fun w => Root.floor_all v w v9
      have F2 := Lib.hid fun w => Root.rfloor_all v w v9
      have C1 := Lib.hid fun w => Root.ceil_all v w v9
      have C2 := Lib.hid fun w => Root.rceil_all v w v9
      generalize Root.rt v 32 = rv at *
      generalize Root.ce v = cv at *
      go_wp2_with (first
        | (go_at_call 8; with_reducible refine (F1.out _).mono ?_; rintro e w1 ⟨rfl, rfl⟩)
        | (go_at_call 9; with_reducible refine (F2.out _).mono ?_; rintro e w1 ⟨rfl, rfl⟩)
        | (go_at_call 10; with_reducible refine (C1.out _).mono ?_; rintro e w1 ⟨rfl, rfl⟩)
        | (go_at_call 11; with_reducible refine (C2.out _).mono ?_; rintro e w1 ⟨rfl, rfl⟩))
      go_round
      case rel => exact ⟨k + 1, by omega, by go_num⟩
      case measure => simp [intOf]; omega
    · obtain rfl : k = 5 := by omega
      clear I2 V9
      go_wp2_with fail
      obtain ⟨c1, c2, c3, _, _, _⟩ := Geo.cells3 h1.out
      obtain ⟨c4, c5, c6, _, _, _⟩ := Geo.cells3 h2.out
      go_region_held3 (fun w' => w'.cell? ⟨w.heap.size, 0, none⟩ = some (.int .i64 x1) ∧ w'.cell? ⟨w.heap.size, 1, none⟩ = some (.int .i64 y1) ∧ w'.cell? ⟨w.heap.size, 2, none⟩ = some (.int .i64 u1) ∧ w'.cell? ⟨w.heap.size + 1, 0, none⟩ = some (.int .i64 x2) ∧ w'.cell? ⟨w.heap.size + 1, 1, none⟩ = some (.int .i64 y2) ∧ w'.cell? ⟨w.heap.size + 1, 2, none⟩ = some (.int .i64 u2))
        (first
          | (go_split_ands; ((with_reducible refine ⟨hl.cell ne1 ?_, hl.cell ne1 ?_, hl.cell ne1 ?_, hl.cell ne2 ?_, hl.cell ne2 ?_, hl.cell ne2 ?_⟩) <;> (with_reducible assumption)))
          | go_keep)
        ((first
        | (go_at_call 12; (with_reducible refine (Src.position_any _ L1.out.di (by omega) (by omega)).mono ?_); rintro r w7 ⟨⟨x4, y4, u4, rfl, pv4⟩, hl⟩; have L2 := Lib.hid (L1.out.trans hl))
        | (go_at_call 12; (with_reducible refine (Src.position_any _ L1.out.drew.di (by omega) (by omega)).mono ?_); rintro r w7 ⟨⟨x4, y4, u4, rfl, pv4⟩, hl⟩; have L2 := Lib.hid (L1.out.drew.trans hl))
        | (go_at_call 12; (with_reducible refine (Src.position_any _ L0.out.di (by omega) (by omega)).mono ?_); rintro r w6 ⟨⟨x3, y3, u3, rfl, pv3⟩, hl⟩; have L1 := Lib.hid (L0.out.trans hl))
        | (go_at_call 12; (with_reducible refine (Src.position_any _ L0.out.drew.di (by omega) (by omega)).mono ?_); rintro r w6 ⟨⟨x3, y3, u3, rfl, pv3⟩, hl⟩; have L1 := Lib.hid (L0.out.drew.trans hl))))
      go_wp2_with fail
      have hb := Lib.hid L2.out.di.bel
      replace hb := Lib.hid (Buf.then_ hA.out hb.out)
      replace hb := Lib.hid (Buf.then_ hb.out (Geo.new_block (.cells #[.int .i64 x1, .int .i64 y1, .int .i64 u1, .int .i64 x2, .int .i64 y2, .int .i64 u2, .int .i64 x3, .int .i64 y3, .int .i64 u3, .int .i64 x4, .int .i64 y4, .int .i64 u4] 23)))
      have gO := Lib.hid (Geo.blk_new w7 (.cells #[.int .i64 x1, .int .i64 y1, .int .i64 u1, .int .i64 x2, .int .i64 y2, .int .i64 u2, .int .i64 x3, .int .i64 y3, .int .i64 u3, .int .i64 x4, .int .i64 y4, .int .i64 u4] 23))
      have E := Lib.hid (elems x1 y1 u1 x2 y2 u2 x3 y3 u3 x4 y4 u4)
      obtain ⟨wT, hwT⟩ : ∃ wT, wT = w7.alloc (.cells #[.int .i64 x1, .int .i64 y1, .int .i64 u1, .int .i64 x2, .int .i64 y2, .int .i64 u2, .int .i64 x3, .int .i64 y3, .int .i64 u3, .int .i64 x4, .int .i64 y4, .int .i64 u4] 23) := ⟨_, rfl⟩
      rw [← hwT] at hb gO ⊢
      replace E := Lib.hid fun k (hk : k < 4) => E.out w7.heap.size k hk
      generalize (Obj.cells #[.int .i64 x1, .int .i64 y1, .int .i64 u1, .int .i64 x2, .int .i64 y2, .int .i64 u2, .int .i64 x3, .int .i64 y3, .int .i64 u3, .int .i64 x4, .int .i64 y4, .int .i64 u4] 23 (0, 0)) = O at E gO
      clear hwT h1 h2 c1 c2 c3 c4 c5 c6 hA L0 L1 L2 pv3 pv4 hl
      go_loopw [52] (fun i wr => ∃ k : Nat, k ≤ 4 ∧ i = .int .i64 k ∧ Hid (wr.heap[w7.heap.size]? = some O) ∧ Hid (Below w.heap.size w wr)) (fun i _ => (4 - intOf i).toNat)
      case atStart => exact ⟨0, by omega, rfl, gO, hb⟩
      case round =>
        clear gO hb
        obtain ⟨k, hk, rfl, gO, hb⟩ := hrel
        obtain ⟨wo, rfl⟩ : ∃ wo, wo = wr := ⟨_, rfl⟩
        by_cases hlt : k < 4
        · have hlt' : (k : Int) < 4 := by omega
          obtain ⟨a, b, c, hE⟩ := E.out k hlt
          obtain ⟨c1, c2, c3⟩ := hE wo gO.out
          clear hE
          have V1 := Lib.hid fun w => Geo.valid_any a b c w
          have V2 := Lib.hid fun w => Geo.rvalid_any a b c w
          generalize Geo.pvB a b c = bv at V1 V2
          go_wp2_with fail
          have pp := Lib.hid (Geo.blk_new wo (.cells #[.int .i64 a, .int .i64 b, .int .i64 c] 23 ))
          replace gO := Lib.hid (Geo.blk_alloc gO.out (.cells #[.int .i64 a, .int .i64 b, .int .i64 c] 23 ))
          replace hb := Lib.hid (Buf.then_ hb.out (Geo.new_block (.cells #[.int .i64 a, .int .i64 b, .int .i64 c] 23 )))
          clear c1 c2 c3
          obtain ⟨wv, hwv⟩ : ∃ wv, wv = wo.alloc (.cells #[.int .i64 a, .int .i64 b, .int .i64 c] 23 ) := ⟨_, rfl⟩
          rw [← hwv] at pp gO hb ⊢
          clear hwv
          refine Buf.region_calm wv (by kernel_rfl) (by kernel_rfl) (Below.refl _ _) ?_
          repeat (go_big_quiet_step ((intro hC; first
            | (go_at_call 13; (with_reducible exact Buf.calm hC (V1.out _)))
            | (go_at_call 14; (with_reducible exact Buf.calm hC (V2.out _)))
            | rfl
            | (simp only [(tc (Geo.blk_b hC pp.out)).1, (tc (Geo.blk_b hC pp.out)).2.1, (tc (Geo.blk_b hC pp.out)).2.2, Result.andThen_ok]; first | exact ⟨trivial, rfl⟩ | rfl))))
          refine wpQuiet_nil ?_
          intro w8 hc
          replace pp := Lib.hid (Geo.blk_b hc pp.out)
          replace gO := Lib.hid (Geo.blk_b hc gO.out)
          replace hb := Lib.hid (Buf.then_ hb.out hc)
          clear hc V1 V2
          go_wp2_with fail
          go_loopw [63] (fun i wr => ∃ j : Nat, j ≤ 4 ∧ i = .int .i64 j ∧ Hid (wr.heap[wo.heap.size]? = some (.cells #[.int .i64 a, .int .i64 b, .int .i64 c] 23 (0, 0))) ∧ Hid (wr.heap[w7.heap.size]? = some O) ∧ Hid (Below w.heap.size w wr)) (fun i _ => (4 - intOf i).toNat)
          case atStart => exact ⟨0, by omega, rfl, pp, gO, hb⟩
          case round =>
            clear pp gO hb
            obtain ⟨j, hj, rfl, pp, gO, hb⟩ := hrel
            obtain ⟨wi, rfl⟩ : ∃ wi, wi = wr := ⟨_, rfl⟩
            by_cases hlj : j < 4
            · have hlj' : (j : Int) < 4 := by omega
              obtain ⟨d, e, f, hE⟩ := E.out j hlj
              obtain ⟨c1, c2, c3⟩ := hE wi gO.out
              clear hE
              have K1 := Lib.hid fun w => Geo.compare_any a b c d e f w
              have K2 := Lib.hid fun w => Geo.rcompare_any a b c d e f w
              have Q1 := Lib.hid fun w => Geo.square_any a b c d e f w
              have Q2 := Lib.hid fun w => Geo.rsquare_any a b c d e f w
              generalize Geo.cmp3 (Geo.cmpI a d) (Geo.cmpI b e) (Geo.cmpI c f) = cv at K1 K2
              generalize Geo.sqv a b c d e f = sv at Q1 Q2
              go_wp2_with fail
              have qq := Lib.hid (Geo.blk_new wi (.cells #[.int .i64 d, .int .i64 e, .int .i64 f] 23 ))
              replace pp := Lib.hid (Geo.blk_alloc pp.out (.cells #[.int .i64 d, .int .i64 e, .int .i64 f] 23 ))
              replace gO := Lib.hid (Geo.blk_alloc gO.out (.cells #[.int .i64 d, .int .i64 e, .int .i64 f] 23 ))
              replace hb := Lib.hid (Buf.then_ hb.out (Geo.new_block (.cells #[.int .i64 d, .int .i64 e, .int .i64 f] 23 )))
              clear c1 c2 c3
              obtain ⟨wu, hwu⟩ : ∃ wu, wu = wi.alloc (.cells #[.int .i64 d, .int .i64 e, .int .i64 f] 23 ) := ⟨_, rfl⟩
              rw [← hwu] at pp qq gO hb ⊢
              clear hwu
              refine Buf.region_calm wu (by kernel_rfl) (by kernel_rfl) (Below.refl _ _) ?_
              repeat (go_big_quiet_step ((intro hC; first
                | (go_at_call 15; (with_reducible exact Buf.calm hC (K1.out _)))
                | (go_at_call 16; (with_reducible exact Buf.calm hC (K2.out _)))
                | (go_at_call 17; (with_reducible exact Buf.calm hC (Q1.out _)))
                | (go_at_call 18; (with_reducible exact Buf.calm hC (Q2.out _)))
                | rfl
                | (simp only [(tc (Geo.blk_b hC pp.out)).1, (tc (Geo.blk_b hC pp.out)).2.1, (tc (Geo.blk_b hC pp.out)).2.2, Result.andThen_ok]; first | exact ⟨trivial, rfl⟩ | rfl)
                | (simp only [(tc (Geo.blk_b hC qq.out)).1, (tc (Geo.blk_b hC qq.out)).2.1, (tc (Geo.blk_b hC qq.out)).2.2, Result.andThen_ok]; first | exact ⟨trivial, rfl⟩ | rfl))))
              refine wpQuiet_nil ?_
              intro w9 hc
              replace pp := Lib.hid (Geo.blk_b hc pp.out)
              replace gO := Lib.hid (Geo.blk_b hc gO.out)
              replace hb := Lib.hid (Buf.then_ hb.out hc)
              clear hc K1 K2 Q1 Q2 qq
              go_wp2
              go_roundw
              case rel => exact ⟨j + 1, by omega, by go_num, pp, gO, hb⟩
              case measure => simp [intOf]; omega
            · obtain rfl : j = 4 := by omega
              go_wp2
              go_roundw
              case rel => exact ⟨k + 1, by omega, by go_num, gO, hb⟩
              case measure => simp [intOf]; omega
        · obtain rfl : k = 4 := by omega
          clear E
          go_wp2_with (go_at_call 19; refine (Geo.awake_any _).mono ?_; rintro e0 w9 ⟨rfl, hc⟩; replace hb := Lib.hid (Buf.then_ hb.out hc); clear hc)
          go_ret
          exact ⟨rfl, hb.out⟩
end Laws
end Go.Proofs.Ytjicjdnllnejcaa
