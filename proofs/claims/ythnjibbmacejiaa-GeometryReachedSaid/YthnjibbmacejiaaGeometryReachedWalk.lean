/- The walk of GeometryReached. -/
import Derived.Test.YthnjibbmacejiaaPlaceB
import Derived.Test.YthnjibbmacejiaaGeoG
import Derived.Test.YthnjibbmacejiaaGeoS
namespace Go.Proofs.Ythnjibbmacejiaa
open Go.RowKit
namespace Laws
theorem own_shape {w : World} {B : Nat} {e : TypeId} {v : Value} {n : Nat} {xs : List Value} (h : w.ownsRow B e 3 v n xs) (hn : 0 < n) : ∃ (g cap : Nat) (o : Obj), v = .slice (some ⟨g, 0, none⟩) n cap ∧ w.heap[g]? = some o ∧ (∀ w' : World, w'.heap[g]? = some o → ∀ j u, xs[j]? = some u → w'.cell? ⟨g, j, none⟩ = some u) ∧ n ≤ cap := by
  rcases id h.2 with ⟨_, h0⟩ | ⟨g, cap, cur, rfl, hb, hg, h1, _⟩
  · omega
  · refine ⟨g, cap, _, rfl, hg, fun w' hw' j u hu => ?_, h1⟩
    rw [World.cell?_of_block (a := ⟨g, j, none⟩) (hw'.trans hg.symm)]
    have := h.cells (g := g) rfl j u hu
    rwa [Addr.add_lit, Nat.zero_add] at this
theorem take_snoc (l : List (Int × Int × Int)) (k : Nat) (h : k < l.length) : l.take (k + 1) = l.take k ++ [l[k]] := by
  rw [List.take_succ_eq_append_getElem h]
set_option maxHeartbeats 8000000 in
set_option maxRecDepth 100000 in
theorem geometryReached_walk (a0 : Option Addr) (len0 cap0 : Nat) (z0 : List Int) (w : World) (w0 : Buf.IsRow .i64 w a0 len0 cap0 z0) :
    Calls Try.prog 3 #[.slice a0 len0 cap0] w fun e w' => e = .returned (.bool true) ∧ Below w.heap.size w w' := by
  go_enter Try.func3, Try.ntmps3
  go_wp2_with fail
  refine (Src.new_any a0 len0 cap0 z0 w w0).mono ?_
  rintro e0 wA ⟨rfl, n, hd⟩
  have L0 := Lib.hid (Src.Left.refl hd)
  clear hd w0
  go_wp2_with fail
  refine (Src.box_any _ _ L0.out.di (by omega) (by omega) (by omega) (by omega)).mono ?_
  rintro e0 w1 ⟨⟨a, b, c, d, e, f, rfl, vb, s1, s2, s3, _, _, _, _, _, _⟩, hl⟩
  replace L0 := Lib.hid (L0.out.trans hl)
  clear hl
  go_wp2_with fail
  refine (Src.place_any _ L0.out.di (by omega) (by omega)).mono ?_
  rintro e0 w2 ⟨⟨x, y, z, rfl, x0, x1, y0, y1, z1, z2⟩, hl⟩
  replace L0 := Lib.hid (L0.out.trans hl)
  clear hl
  have vp : Geo.PV x y z := ⟨by omega, by omega, by omega, by omega, by omega, by omega⟩
  have g1 := Lib.hid (Geo.blk_alloc (Geo.blk_new w2 (.cells #[.int .i64 a, .int .i64 b, .int .i64 c, .int .i64 d, .int .i64 e, .int .i64 f] 28)) (.cells #[.int .i64 x, .int .i64 y, .int .i64 z] 26))
  have g2 := Lib.hid (Geo.blk_new1 w2 (.cells #[.int .i64 a, .int .i64 b, .int .i64 c, .int .i64 d, .int .i64 e, .int .i64 f] 28) (.cells #[.int .i64 x, .int .i64 y, .int .i64 z] 26))
  have hb := Lib.hid (Geo.bl_alloc (Geo.bl_alloc L0.out.di.bel (o := (.cells #[.int .i64 a, .int .i64 b, .int .i64 c, .int .i64 d, .int .i64 e, .int .i64 f] 28))) (o := (.cells #[.int .i64 x, .int .i64 y, .int .i64 z] 26)))
  clear L0 x0 x1 y0 y1 z1 z2
  have hx := vb.x
  have hy := vb.y
  have hz := vb.z
  obtain ⟨X, hX⟩ : ∃ X : Nat, (X : Int) = d - a + 1 := ⟨(d - a + 1).toNat, by omega⟩
  obtain ⟨Y, hY⟩ : ∃ Y : Nat, (Y : Int) = e - b + 1 := ⟨(e - b + 1).toNat, by omega⟩
  obtain ⟨Z, hZ⟩ : ∃ Z : Nat, (Z : Int) = f - c + 1 := ⟨(f - c + 1).toNat, by omega⟩
  have ALL := Lib.hid (Geo.all_any a b c d e f X Y Z hX hY hZ vb (by omega) (by omega) (by omega))
  have E1 := Lib.hid (Geo.min_all (x := x) (y := y) (z := z) hX hY hZ hx hy hz (Int.le_trans (Geo.near_le (Int.le_refl a) hx (Int.le_refl b) hy (Int.le_refl c) hz) (Int.le_trans (Geo.sq3_bd' vp vb.lo) (by decide))))
  have E2 := Lib.hid (Geo.max_all (x := x) (y := y) (z := z) hX hY hZ hx hy hz)
  have E3 := Lib.hid (Geo.count_all hX hY hZ)
  have hmem : Hid (∀ p ∈ Geo.Fs a b c Y Z X, a ≤ p.1 ∧ p.1 ≤ d ∧ b ≤ p.2.1 ∧ p.2.1 ≤ e ∧ c ≤ p.2.2 ∧ p.2.2 ≤ f) := Lib.hid fun p hp => by
    obtain ⟨⟨m1, m2⟩, ⟨m3, m4⟩, m5, m6⟩ := Geo.Fs_mem.1 hp
    exact ⟨m1, by omega, m3, by omega, m5, by omega⟩
  have hr := Geo.pts_bd vb
  have hlen : (Geo.Fs a b c Y Z X).length ≤ 1000000 := by
    rw [Geo.Fs_length]
    have h1 : Y * Z ≤ 5 * 5 := Nat.mul_le_mul (by omega) (by omega)
    have h2 : X * (Y * Z) ≤ 5 * (5 * 5) := Nat.mul_le_mul (by omega) h1
    omega
  have hlen0 : 0 < (Geo.Fs a b c Y Z X).length := by
    have := E3.out
    have : 1 ≤ Geo.pts a b c d e f := hr.2.1
    omega
  generalize Geo.Fs a b c Y Z X = l at *
  have PB := Lib.hid (Geo.points_yes a b c d e f vb)
  have NB := Lib.hid (Geo.near_yes a b c d e f x y z vb vp)
  have FB := Lib.hid (Geo.far_yes a b c d e f x y z vb vp)
  obtain ⟨i1, i2, i3, i4, i5, i6⟩ := Geo.cells6 g1.out
  clear hX hY hZ hr hx hy hz s1 s2 s3
  go_wp2_with fail
  with_reducible refine (ALL.out _).mono ?_
  rintro e0 w3 ⟨⟨v, rfl, own⟩, hc⟩
  obtain ⟨g, cap, o, rfl, hgo, hcells, hcap⟩ := own_shape own hlen0
  have hcells := Lib.hid hcells
  replace hgo := Lib.hid hgo
  replace g1 := Lib.hid (Geo.blk_b hc g1.out)
  replace g2 := Lib.hid (Geo.blk_b hc g2.out)
  replace hb := Lib.hid (Buf.then_ hb.out hc)
  clear hc i1 i2 i3 i4 i5 i6 own ALL
  have hwl : ((l.length : Nat) : Int) ≤ 1000000 := by omega
  go_wp2_with fail
  go_loopw [6, 7, 8, 21] (fun lv mv nv i wr => ∃ k : Nat, k ≤ l.length ∧ i = .int .i64 k ∧ lv = .int .i64 (Geo.minL x y z (l.take k)) ∧ mv = .int .i64 (Geo.maxL x y z (l.take k)) ∧ nv = .int .i64 k ∧ Hid (wr.heap[w2.heap.size]? = some (.cells #[.int .i64 a, .int .i64 b, .int .i64 c, .int .i64 d, .int .i64 e, .int .i64 f] 28 (0, 0))) ∧ Hid (wr.heap[w2.heap.size + 1]? = some (.cells #[.int .i64 x, .int .i64 y, .int .i64 z] 26 (0, 0))) ∧ Hid (wr.heap[g]? = some o) ∧ Hid (Below w.heap.size w wr)) (fun _ _ _ i _ => l.length - (intOf i).toNat)
  case atStart => exact ⟨0, by omega, rfl, rfl, rfl, rfl, g1, g2, hgo, hb⟩
  case round =>
    clear g1 g2 hgo hb
    obtain ⟨k, hk, rfl, rfl, rfl, rfl, g1, g2, hgo, hb⟩ := hrel
    by_cases hlt : k < l.length
    · have hlt' : (k : Int) < l.length := by omega
      rcases hq : l[k] with ⟨p, q, r⟩
      have mb := hmem.out _ (List.getElem_mem hlt)
      rw [hq] at mb
      obtain ⟨k1, k2, k3, k4, k5, k6⟩ := mb
      simp only at k1 k2 k3 k4 k5 k6
      obtain ⟨c0, c1, c2⟩ := Row3.cells_get l k (p, q, r) (by rw [List.getElem?_eq_getElem hlt, hq])
      replace c0 := hcells.out wr hgo.out _ _ c0
      replace c1 := hcells.out wr hgo.out _ _ c1
      replace c2 := hcells.out wr hgo.out _ _ c2
      simp only at c0 c1 c2
      have vq : Geo.PV p q r := by
        have q1 := vb.lo
        have q2 := vb.hi
        obtain ⟨_, _, _, _, _, _⟩ := q1
        obtain ⟨_, _, _, _, _, _⟩ := q2
        exact ⟨by omega, by omega, by omega, by omega, by omega, by omega⟩
      have SQ := Lib.hid (Geo.square_yes x y z p q r vp vq)
      have CB := Geo.contains_any a b c d e f p q r vb vq
      rw [Geo.wiB_pt', decide_eq_true ⟨k1, k2, k3, k4, k5, k6⟩] at CB
      replace CB := Lib.hid CB
      have T1 : Hid (Geo.minL x y z (l.take (k + 1)) = min (Geo.minL x y z (l.take k)) (Geo.sq3 x y z p q r)) := Lib.hid (by rw [take_snoc l k hlt, Geo.minL_snoc, hq])
      have T2 : Hid (Geo.maxL x y z (l.take (k + 1)) = max (Geo.maxL x y z (l.take k)) (Geo.sq3 x y z p q r)) := Lib.hid (by rw [take_snoc l k hlt, Geo.maxL_snoc, hq])
      generalize Geo.minL x y z (l.take k) = lk at *
      generalize Geo.maxL x y z (l.take k) = mk at *
      generalize Geo.sq3 x y z p q r = dd at *
      replace hq := Lib.hid hq
      clear k1 k2 k3 k4 k5 k6 vq
      have g3 := Lib.hid (Geo.blk_new wr (.cells #[.int .i64 p, .int .i64 q, .int .i64 r] 26))
      replace g1 := Lib.hid (Geo.blk_alloc g1.out (.cells #[.int .i64 p, .int .i64 q, .int .i64 r] 26))
      replace g2 := Lib.hid (Geo.blk_alloc g2.out (.cells #[.int .i64 p, .int .i64 q, .int .i64 r] 26))
      replace hgo := Lib.hid (Geo.blk_alloc hgo.out (.cells #[.int .i64 p, .int .i64 q, .int .i64 r] 26))
      replace hb := Lib.hid (Geo.bl_alloc hb.out (o := (.cells #[.int .i64 p, .int .i64 q, .int .i64 r] 26)))
      obtain ⟨j1, j2, j3, _, _, _⟩ := Geo.cells3 g2.out
      go_wp2_with fail
      with_reducible refine (SQ.out _).mono ?_
      rintro e0 w4 ⟨rfl, hc⟩
      replace g1 := Lib.hid (Geo.blk_b hc g1.out)
      replace g2 := Lib.hid (Geo.blk_b hc g2.out)
      replace g3 := Lib.hid (Geo.blk_b hc g3.out)
      replace hgo := Lib.hid (Geo.blk_b hc hgo.out)
      replace hb := Lib.hid (Buf.then_ hb.out hc)
      clear hc j1 j2 j3 c0 c1 c2
      obtain ⟨i1, i2, i3, i4, i5, i6⟩ := Geo.cells6 g1.out
      obtain ⟨j1, j2, j3, _, _, _⟩ := Geo.cells3 g3.out
      go_wp2_with fail
      with_reducible refine (CB.out _).mono ?_
      rintro e0 w5 ⟨rfl, hc⟩
      go_wp2
      go_roundw
      case rel => exact ⟨k + 1, by omega, by go_num, by rw [T1.out], by rw [T2.out], by go_num, Lib.hid (Geo.blk_b hc g1.out), Lib.hid (Geo.blk_b hc g2.out), Lib.hid (Geo.blk_b hc hgo.out), Lib.hid (Buf.then_ hb.out hc)⟩
      case measure => simp [intOf]; omega
    · obtain rfl : k = l.length := by omega
      rw [List.take_length, E1.out, E2.out]
      generalize Geo.near3 a b c d e f x y z = nr at *
      generalize Geo.far3 a b c d e f x y z = fr at *
      rw [← E3.out] at PB
      obtain ⟨i1, i2, i3, i4, i5, i6⟩ := Geo.cells6 g1.out
      obtain ⟨j1, j2, j3, _, _, _⟩ := Geo.cells3 g2.out
      go_wp2_with (first
        | (go_at_call 12; (with_reducible refine (NB.out _).mono ?_); rintro e0 w6 ⟨rfl, hc⟩; replace g1 := Lib.hid (Geo.blk_b hc g1.out); replace g2 := Lib.hid (Geo.blk_b hc g2.out); replace hb := Lib.hid (Buf.then_ hb.out hc); clear hc; obtain ⟨i1, i2, i3, i4, i5, i6⟩ := Geo.cells6 g1.out; obtain ⟨j1, j2, j3, _, _, _⟩ := Geo.cells3 g2.out)
        | (go_at_call 13; (with_reducible refine (FB.out _).mono ?_); rintro e0 w6 ⟨rfl, hc⟩; replace g1 := Lib.hid (Geo.blk_b hc g1.out); replace g2 := Lib.hid (Geo.blk_b hc g2.out); replace hb := Lib.hid (Buf.then_ hb.out hc); clear hc; obtain ⟨i1, i2, i3, i4, i5, i6⟩ := Geo.cells6 g1.out; obtain ⟨j1, j2, j3, _, _, _⟩ := Geo.cells3 g2.out)
        | (go_at_call 14; (with_reducible refine (PB.out _).mono ?_); rintro e0 w6 ⟨rfl, hc⟩; replace g1 := Lib.hid (Geo.blk_b hc g1.out); replace g2 := Lib.hid (Geo.blk_b hc g2.out); replace hb := Lib.hid (Buf.then_ hb.out hc); clear hc; obtain ⟨i1, i2, i3, i4, i5, i6⟩ := Geo.cells6 g1.out; obtain ⟨j1, j2, j3, _, _, _⟩ := Geo.cells3 g2.out)
        | (go_at_call 15; refine (Geo.awake_any _).mono ?_; rintro e0 w6 ⟨rfl, hc⟩; replace g1 := Lib.hid (Geo.blk_b hc g1.out); replace g2 := Lib.hid (Geo.blk_b hc g2.out); replace hb := Lib.hid (Buf.then_ hb.out hc); clear hc; obtain ⟨i1, i2, i3, i4, i5, i6⟩ := Geo.cells6 g1.out; obtain ⟨j1, j2, j3, _, _, _⟩ := Geo.cells3 g2.out))
      go_ret
      exact ⟨rfl, hb.out⟩
end Laws
end Go.Proofs.Ythnjibbmacejiaa
