/- The walk of BoundTight. -/
import Derived.Test.YtmjfafphfkadgaaBoundC
import Derived.Test.YtmjfafphfkadgaaBoundD
import Derived.Test.YtmjfafphfkadgaaGeoS
import Derived.Test.YtmjfafphfkadgaaPlaceC
set_option linter.unusedVariables false
namespace Go.Proofs.Ytmjfafphfkadgaa
open Go.RowKit
namespace Laws
theorem own_shape {w : World} {B : Nat} {e : TypeId} {v : Value} {n : Nat} {xs : List Value} (h : w.ownsRow B e 3 v n xs) (hn : 0 < n) : ∃ (g cap : Nat) (o : Obj), v = .slice (some ⟨g, 0, none⟩) n cap ∧ w.heap[g]? = some o ∧ (∀ w' : World, w'.heap[g]? = some o → ∀ j u, xs[j]? = some u → w'.cell? ⟨g, j, none⟩ = some u) ∧ n ≤ cap := by
  rcases id h.2 with ⟨_, h0⟩ | ⟨g, cap, cur, rfl, hb, hg, h1, _⟩
  · omega
  · refine ⟨g, cap, _, rfl, hg, fun w' hw' j u hu => ?_, h1⟩
    rw [World.cell?_of_block (a := ⟨g, j, none⟩) (hw'.trans hg.symm)]
    have := h.cells (g := g) rfl j u hu
    rwa [Addr.add_lit, Nat.zero_add] at this
theorem take_snoc (l : List (Int × Int × Int)) (k : Nat) (h : k < l.length) : l.take (k + 1) = l.take k ++ [l[k]] := by
  rw [List.take_succ_eq_append_getElem h]
def mnT (F : Int × Int × Int → Int) (l : List (Int × Int × Int)) : Int := l.foldl (fun m q => min m (F q)) 1152921504606846976
def mxT (F : Int × Int × Int → Int) (l : List (Int × Int × Int)) : Int := l.foldl (fun m q => max m (F q)) (-1)
theorem mnT_snoc (F : Int × Int × Int → Int) (l : List (Int × Int × Int)) (q : Int × Int × Int) : mnT F (l ++ [q]) = min (mnT F l) (F q) := by simp [mnT, List.foldl_append]
theorem mxT_snoc (F : Int × Int × Int → Int) (l : List (Int × Int × Int)) (q : Int × Int × Int) : mxT F (l ++ [q]) = max (mxT F l) (F q) := by simp [mxT, List.foldl_append]
theorem mnT_is (F : Int × Int × Int → Int) (l : List (Int × Int × Int)) (v : Int) (h9 : v ≤ 1152921504606846976) (h1 : ∀ q ∈ l, v ≤ F q) (h2 : ∃ q ∈ l, F q = v) : mnT F l = v := by
  obtain ⟨⟨_, a⟩, b⟩ := Geo.foldMin F l 1152921504606846976
  obtain ⟨q, hq, e⟩ := h2
  have := a q hq
  unfold mnT
  rcases b with b | ⟨p, hp, b⟩
  · rw [b] at this ⊢; omega
  · have e2 := h1 p hp; rw [b] at this ⊢; omega
theorem mxT_is (F : Int × Int × Int → Int) (l : List (Int × Int × Int)) (v : Int) (h9 : -1 ≤ v) (h1 : ∀ q ∈ l, F q ≤ v) (h2 : ∃ q ∈ l, F q = v) : mxT F l = v := by
  obtain ⟨⟨_, a⟩, b⟩ := Geo.foldMax F l (-1)
  obtain ⟨q, hq, e⟩ := h2
  have := a q hq
  unfold mxT
  rcases b with b | ⟨p, hp, b⟩
  · rw [b] at this ⊢; omega
  · have e2 := h1 p hp; rw [b] at this ⊢; omega
set_option maxHeartbeats 8000000 in
set_option maxRecDepth 100000 in
theorem boundTight_walk (a0 : Option Addr) (len0 cap0 : Nat) (z0 : List Int) (w : World) (w0 : Buf.IsRow .i64 w a0 len0 cap0 z0) :
    Calls Try.prog 5 #[.slice a0 len0 cap0] w fun e w' => e = .returned (.bool true) ∧ Below w.heap.size w w' := by
  go_enter Try.func5, Try.ntmps5
  go_wp2_with fail
  refine (Src.new_any a0 len0 cap0 z0 w w0).mono ?_
  rintro e0 wA ⟨rfl, m, hd⟩
  have L0 := Lib.hid (Src.Left.refl hd)
  clear hd w0
  go_wp2_with fail
  refine (Trav.table_any L0.out.di).mono ?_
  rintro e0 w2 ⟨⟨s, b1, b2, n, c1, c2, lo, hi, rfl, tv0, re, s9, n9, lb1, lb2⟩, hl⟩
  have ltA := L0.out.di.lt
  have nb1 : b1 ≠ w.heap.size := by omega
  have nb2 : b2 ≠ w.heap.size := by omega
  replace L0 := Lib.hid (L0.out.trans hl)
  have tv : Hid (Bound.Wide w2 s b1 b2 n lo hi) := Lib.hid (Bound.Wide.mk tv0 re)
  clear hl ltA tv0 re lb1 lb2 s9 n9
  go_wp2_with fail
  refine (Src.box_any 40 4 L0.out.di (by omega) (by omega) (by omega) (by omega)).mono ?_
  rintro e0 w3 ⟨⟨a, b, c, d, e, f, rfl, vb, sd, se, sf, a0', a1', b0', b1', c0', c1'⟩, hl⟩
  replace tv := Lib.hid (Bound.Wide.mk (tv.out.tv.left hl nb1 nb2) tv.out.re)
  replace L0 := Lib.hid (L0.out.trans hl)
  clear hl
  go_wp2_with fail
  refine (Src.place_any 60 L0.out.di (by omega) (by omega)).mono ?_
  rintro e0 w4 ⟨⟨x, y, z, rfl, x0, x1, y0, y1, z1, z2⟩, hl⟩
  replace tv := Lib.hid (Bound.Wide.mk (tv.out.tv.left hl nb1 nb2) tv.out.re)
  replace L0 := Lib.hid (L0.out.trans hl)
  clear hl
  have lt4 := L0.out.di.lt
  have g1 := Lib.hid (Trav.blk3a w4 (.cells #[.int .i64 s, .slice (some ⟨b1, 0, none⟩) n c1, .slice (some ⟨b2, 0, none⟩) n c2] 26) (.cells #[.int .i64 a, .int .i64 b, .int .i64 c, .int .i64 d, .int .i64 e, .int .i64 f] 31) (.cells #[.int .i64 x, .int .i64 y, .int .i64 z] 29))
  have g2 := Lib.hid (Trav.blk3b w4 (.cells #[.int .i64 s, .slice (some ⟨b1, 0, none⟩) n c1, .slice (some ⟨b2, 0, none⟩) n c2] 26) (.cells #[.int .i64 a, .int .i64 b, .int .i64 c, .int .i64 d, .int .i64 e, .int .i64 f] 31) (.cells #[.int .i64 x, .int .i64 y, .int .i64 z] 29))
  have g3 := Lib.hid (Trav.blk3c w4 (.cells #[.int .i64 s, .slice (some ⟨b1, 0, none⟩) n c1, .slice (some ⟨b2, 0, none⟩) n c2] 26) (.cells #[.int .i64 a, .int .i64 b, .int .i64 c, .int .i64 d, .int .i64 e, .int .i64 f] 31) (.cells #[.int .i64 x, .int .i64 y, .int .i64 z] 29))
  replace tv := Lib.hid (tv.out.below (Trav.bel3 w4 (.cells #[.int .i64 s, .slice (some ⟨b1, 0, none⟩) n c1, .slice (some ⟨b2, 0, none⟩) n c2] 26) (.cells #[.int .i64 a, .int .i64 b, .int .i64 c, .int .i64 d, .int .i64 e, .int .i64 f] 31) (.cells #[.int .i64 x, .int .i64 y, .int .i64 z] 29)))
  replace L0 := Lib.hid (L0.out.below (Trav.bel3 w4 (.cells #[.int .i64 s, .slice (some ⟨b1, 0, none⟩) n c1, .slice (some ⟨b2, 0, none⟩) n c2] 26) (.cells #[.int .i64 a, .int .i64 b, .int .i64 c, .int .i64 d, .int .i64 e, .int .i64 f] 31) (.cells #[.int .i64 x, .int .i64 y, .int .i64 z] 29)))
  have ne1 : w4.heap.size ≠ w.heap.size := by omega
  have ne2 : w4.heap.size + 1 ≠ w.heap.size := by omega
  have ne3 : w4.heap.size + 1 + 1 ≠ w.heap.size := by omega
  have vp : Geo.PV x y z := ⟨by omega, by omega, by omega, by omega, by omega, by omega⟩
  have far := Bound.far_small (x := x) (y := y) (z := z) vb (by omega) (by omega) (by omega) (by omega) (by omega) (by omega) (by omega) (by omega) (by omega) x0 x1 y0 y1 (by omega) z2
  obtain ⟨m0, m1, _⟩ := Bound.near_far vb vp
  have BI := Lib.hid fun w h => Bound.box_int s b1 b2 n c1 c2 lo hi a b c d e f x y z w h vb vp far
  clear  a0' a1' b0' b1' c0' c1' x0 x1 y0 y1 z1 z2 lt4
  go_wp2_with fail
  obtain ⟨w5, hw5⟩ : ∃ w5, w5 = ((w4.alloc (.cells #[.int .i64 s, .slice (some ⟨b1, 0, none⟩) n c1, .slice (some ⟨b2, 0, none⟩) n c2] 26)).alloc (.cells #[.int .i64 a, .int .i64 b, .int .i64 c, .int .i64 d, .int .i64 e, .int .i64 f] 31)).alloc (.cells #[.int .i64 x, .int .i64 y, .int .i64 z] 29) := ⟨_, rfl⟩
  rw [← hw5] at g1 g2 g3 tv L0 ⊢
  clear hw5
  obtain ⟨kt1, kt2, kt3⟩ := Trav.tcells g1.out
  obtain ⟨kb1, kb2, kb3, kb4, kb5, kb6⟩ := Geo.cells6 g2.out
  obtain ⟨kp1, kp2, kp3⟩ := Trav.tcells g3.out
  go_wp2_with fail
  refine (BI.out _ tv.out).mono ?_
  rintro e0 w6 ⟨rfl, hc⟩
  replace g1 := Lib.hid (Trav.blk_b hc g1.out)
  replace g2 := Lib.hid (Trav.blk_b hc g2.out)
  replace g3 := Lib.hid (Trav.blk_b hc g3.out)
  replace tv := Lib.hid (tv.out.below hc)
  replace L0 := Lib.hid (L0.out.below hc)
  clear hc
  clear kt1 kt2 kt3 kb1 kb2 kb3 kb4 kb5 kb6 kp1 kp2 kp3
  have hx := vb.x
  have hy := vb.y
  have hz := vb.z
  obtain ⟨X, hX⟩ : ∃ X : Nat, (X : Int) = d - a + 1 := ⟨(d - a + 1).toNat, by omega⟩
  obtain ⟨Y, hY⟩ : ∃ Y : Nat, (Y : Int) = e - b + 1 := ⟨(e - b + 1).toNat, by omega⟩
  obtain ⟨Z, hZ⟩ : ∃ Z : Nat, (Z : Int) = f - c + 1 := ⟨(f - c + 1).toNat, by omega⟩
  have ALL := Lib.hid (Geo.all_any a b c d e f X Y Z hX hY hZ vb (by omega) (by omega) (by omega))
  have PT : Hid (∀ p q r, a ≤ p → p ≤ d → b ≤ q → q ≤ e → c ≤ r → r ≤ f → Geo.PV p q r ∧ Geo.sq3 p q r x y z ≤ 160000 ∧ Bound.LO s lo (Geo.near3 a b c d e f x y z) ≤ Bound.LO s lo (Geo.sq3 p q r x y z) ∧ Bound.HI s hi (Geo.sq3 p q r x y z) ≤ Bound.HI s hi (Geo.far3 a b c d e f x y z) ∧ 0 ≤ Bound.LO s lo (Geo.sq3 p q r x y z) ∧ Bound.LO s lo (Geo.sq3 p q r x y z) ≤ 1099511627776 ∧ 0 ≤ Bound.HI s hi (Geo.sq3 p q r x y z) ∧ Bound.HI s hi (Geo.sq3 p q r x y z) ≤ 1099511627776) := Lib.hid fun p q r k1 k2 k3 k4 k5 k6 => by
    have nl := Geo.near_le (x := x) (y := y) (z := z) k1 k2 k3 k4 k5 k6
    have fg := Geo.far_ge (x := x) (y := y) (z := z) k1 k2 k3 k4 k5 k6
    rw [Bound.sq_comm x y z p q r] at nl fg
    have i1 := tv.out.mono m0 nl (by omega)
    have i2 := tv.out.mono (by omega) fg far
    have i3 := tv.out.bd (m := Geo.sq3 p q r x y z) (by omega) (by omega)
    exact ⟨Bound.pt_of vb k1 k2 k3 k4 k5 k6, by omega, i1.1, i2.2, i3.1, by omega, by omega, i3.2.2⟩
  have hmem : Hid (∀ p ∈ Geo.Fs a b c Y Z X, a ≤ p.1 ∧ p.1 ≤ d ∧ b ≤ p.2.1 ∧ p.2.1 ≤ e ∧ c ≤ p.2.2 ∧ p.2.2 ≤ f) := Lib.hid fun p hp => by
    obtain ⟨⟨m1, m2⟩, ⟨m3, m4⟩, m5, m6⟩ := Geo.Fs_mem.1 hp
    exact ⟨m1, by omega, m3, by omega, m5, by omega⟩
  have bdn := tv.out.bd m0 (by omega)
  have bdf := tv.out.bd (m := Geo.far3 a b c d e f x y z) (by omega) far
  have E1 : mnT (fun q => Bound.LO s lo (Geo.sq3 q.1 q.2.1 q.2.2 x y z)) (Geo.Fs a b c Y Z X) = Bound.LO s lo (Geo.near3 a b c d e f x y z) := by
    apply mnT_is
    · omega
    · intro q hq; obtain ⟨k1, k2, k3, k4, k5, k6⟩ := hmem.out q hq; exact (PT.out _ _ _ k1 k2 k3 k4 k5 k6).2.2.1
    · obtain ⟨p, q, r, ⟨k1, k2⟩, ⟨k3, k4⟩, ⟨k5, k6⟩, h⟩ := Geo.near_at x y z hx hy hz
      have j1 : p < a + (X : Int) := by omega
      have j2 : q < b + (Y : Int) := by omega
      have j3 : r < c + (Z : Int) := by omega
      exact ⟨(p, q, r), Geo.Fs_mem.2 ⟨⟨k1, j1⟩, ⟨k3, j2⟩, k5, j3⟩, by rw [Bound.sq_comm x y z p q r] at h; rw [← h]⟩
  have E2 : mxT (fun q => Bound.HI s hi (Geo.sq3 q.1 q.2.1 q.2.2 x y z)) (Geo.Fs a b c Y Z X) = Bound.HI s hi (Geo.far3 a b c d e f x y z) := by
    apply mxT_is
    · omega
    · intro q hq; obtain ⟨k1, k2, k3, k4, k5, k6⟩ := hmem.out q hq; exact (PT.out _ _ _ k1 k2 k3 k4 k5 k6).2.2.2.1
    · obtain ⟨p, q, r, ⟨k1, k2⟩, ⟨k3, k4⟩, ⟨k5, k6⟩, h⟩ := Geo.far_at x y z hx hy hz
      have j1 : p < a + (X : Int) := by omega
      have j2 : q < b + (Y : Int) := by omega
      have j3 : r < c + (Z : Int) := by omega
      exact ⟨(p, q, r), Geo.Fs_mem.2 ⟨⟨k1, j1⟩, ⟨k3, j2⟩, k5, j3⟩, by rw [Bound.sq_comm x y z p q r] at h; rw [← h]⟩
  replace E1 := Lib.hid E1
  replace E2 := Lib.hid E2
  have E3 := Lib.hid (Geo.count_all hX hY hZ)
  have hr := Geo.pts_bd vb
  have hlen : (Geo.Fs a b c Y Z X).length ≤ 1000000 := by
    rw [Geo.Fs_length]
    have h1 : Y * Z ≤ 50 * 50 := Nat.mul_le_mul (by omega) (by omega)
    have h2 : X * (Y * Z) ≤ 50 * (50 * 50) := Nat.mul_le_mul (by omega) h1
    omega
  have hlen0 : 0 < (Geo.Fs a b c Y Z X).length := by
    have := E3.out
    have : 1 ≤ Geo.pts a b c d e f := hr.2.1
    omega
  clear sd se sf E3 hr bdn bdf m0 m1 far BI hX hY hZ hx hy hz
  generalize Geo.Fs a b c Y Z X = l at *
  generalize Bound.LO s lo (Geo.near3 a b c d e f x y z) = lo0 at *
  generalize Bound.HI s hi (Geo.far3 a b c d e f x y z) = hi0 at *
  obtain ⟨kb1, kb2, kb3, kb4, kb5, kb6⟩ := Geo.cells6 g2.out
  go_wp2_with fail
  with_reducible refine (ALL.out _).mono ?_
  rintro e0 w7 ⟨⟨v, rfl, own⟩, hc⟩
  obtain ⟨g, cap, o, rfl, hgo, hcells, hcap⟩ := own_shape own hlen0
  have hcells := Lib.hid hcells
  replace hgo := Lib.hid hgo
  have hW := Lib.hid L0.out.di.bel
  replace g1 := Lib.hid (Trav.blk_b hc g1.out)
  replace g2 := Lib.hid (Trav.blk_b hc g2.out)
  replace g3 := Lib.hid (Trav.blk_b hc g3.out)
  replace tv := Lib.hid (tv.out.below hc)
  replace hW := Lib.hid (Buf.then_ hW.out hc)
  clear hc
  clear kb1 kb2 kb3 kb4 kb5 kb6 own ALL L0
  have hwl : ((l.length : Nat) : Int) ≤ 1000000 := by omega
  go_wp2_with fail
  go_loopw [10, 11, 36] (fun lv mv i wr => ∃ k : Nat, k ≤ l.length ∧ i = .int .i64 k ∧ lv = .int .i64 (mnT (fun q => Bound.LO s lo (Geo.sq3 q.1 q.2.1 q.2.2 x y z)) (l.take k)) ∧ mv = .int .i64 (mxT (fun q => Bound.HI s hi (Geo.sq3 q.1 q.2.1 q.2.2 x y z)) (l.take k)) ∧ Hid (wr.heap[w4.heap.size]? = some (.cells #[.int .i64 s, .slice (some ⟨b1, 0, none⟩) n c1, .slice (some ⟨b2, 0, none⟩) n c2] 26 (0, 0))) ∧ Hid (wr.heap[w4.heap.size + 1 + 1]? = some (.cells #[.int .i64 x, .int .i64 y, .int .i64 z] 29 (0, 0))) ∧ Hid (wr.heap[g]? = some o) ∧ Hid (Bound.Wide wr s b1 b2 n lo hi) ∧ Hid (Below w.heap.size w wr)) (fun _ _ i _ => l.length - (intOf i).toNat)
  case atStart => exact ⟨0, by omega, rfl, rfl, rfl, g1, g3, hgo, tv, hW⟩
  case round =>
    clear g1 g2 g3 tv hgo hW
    obtain ⟨k, hk, rfl, rfl, rfl, g1, g3, hgo, tv, hW⟩ := hrel
    by_cases hlt : k < l.length
    · have hlt' : (k : Int) < l.length := by omega
      rcases hq : l[k] with ⟨p, q, r⟩
      have mb := hmem.out _ (List.getElem_mem hlt)
      rw [hq] at mb
      obtain ⟨k1, k2, k3, k4, k5, k6⟩ := mb
      simp only at k1 k2 k3 k4 k5 k6
      obtain ⟨c0', c1', c2'⟩ := Row3.cells_get l k (p, q, r) (by rw [List.getElem?_eq_getElem hlt, hq])
      replace c0' := hcells.out wr hgo.out _ _ c0'
      replace c1' := hcells.out wr hgo.out _ _ c1'
      replace c2' := hcells.out wr hgo.out _ _ c2'
      simp only at c0' c1' c2'
      obtain ⟨vq, q9, _, _, v0, v9, u0, u9⟩ := PT.out p q r k1 k2 k3 k4 k5 k6
      have PJ := Lib.hid fun w h => Bound.pt_int s b1 b2 n c1 c2 lo hi p q r x y z w h vq vp q9
      have T1 : Hid (mnT (fun q => Bound.LO s lo (Geo.sq3 q.1 q.2.1 q.2.2 x y z)) (l.take (k + 1)) = min (mnT (fun q => Bound.LO s lo (Geo.sq3 q.1 q.2.1 q.2.2 x y z)) (l.take k)) (Bound.LO s lo (Geo.sq3 p q r x y z))) := Lib.hid (by rw [take_snoc l k hlt, mnT_snoc, hq])
      have T2 : Hid (mxT (fun q => Bound.HI s hi (Geo.sq3 q.1 q.2.1 q.2.2 x y z)) (l.take (k + 1)) = max (mxT (fun q => Bound.HI s hi (Geo.sq3 q.1 q.2.1 q.2.2 x y z)) (l.take k)) (Bound.HI s hi (Geo.sq3 p q r x y z))) := Lib.hid (by rw [take_snoc l k hlt, mxT_snoc, hq])
      generalize mnT (fun q => Bound.LO s lo (Geo.sq3 q.1 q.2.1 q.2.2 x y z)) (l.take k) = lk at *
      generalize mxT (fun q => Bound.HI s hi (Geo.sq3 q.1 q.2.1 q.2.2 x y z)) (l.take k) = mk at *
      generalize Bound.LO s lo (Geo.sq3 p q r x y z) = lq at *
      generalize Bound.HI s hi (Geo.sq3 p q r x y z) = hq' at *
      replace hq := Lib.hid hq
      clear k1 k2 k3 k4 k5 k6 vq q9
      have g4 := Lib.hid (Geo.blk_new wr (.cells #[.int .i64 p, .int .i64 q, .int .i64 r] 29))
      replace g1 := Lib.hid (Geo.blk_alloc g1.out (.cells #[.int .i64 p, .int .i64 q, .int .i64 r] 29))
      replace g3 := Lib.hid (Geo.blk_alloc g3.out (.cells #[.int .i64 p, .int .i64 q, .int .i64 r] 29))
      replace hgo := Lib.hid (Geo.blk_alloc hgo.out (.cells #[.int .i64 p, .int .i64 q, .int .i64 r] 29))
      replace tv := Lib.hid (tv.out.below (Geo.new_block (.cells #[.int .i64 p, .int .i64 q, .int .i64 r] 29)))
      replace hW := Lib.hid (Geo.bl_alloc hW.out (o := (.cells #[.int .i64 p, .int .i64 q, .int .i64 r] 29)))
      obtain ⟨kt1, kt2, kt3⟩ := Trav.tcells g1.out
      obtain ⟨kp1, kp2, kp3⟩ := Trav.tcells g3.out
      obtain ⟨kq1, kq2, kq3⟩ := Trav.tcells g4.out
      go_wp2_with fail
      with_reducible refine (PJ.out _ tv.out).mono ?_
      rintro e0 w8 ⟨rfl, hc⟩
      replace g1 := Lib.hid (Geo.blk_b hc g1.out)
      replace g3 := Lib.hid (Geo.blk_b hc g3.out)
      replace hgo := Lib.hid (Geo.blk_b hc hgo.out)
      replace tv := Lib.hid (tv.out.below hc)
      replace hW := Lib.hid (Buf.then_ hW.out hc)
      clear hc kt1 kt2 kt3 kp1 kp2 kp3 kq1 kq2 kq3 g4 c0' c1' c2'
      go_wp2
      go_roundw
      case rel => exact ⟨k + 1, by omega, by go_num, by rw [T1.out], by rw [T2.out], g1, g3, hgo, tv, hW⟩
      case measure => simp [intOf]; omega
    · obtain rfl : k = l.length := by omega
      rw [List.take_length, E1.out, E2.out]
      clear hlt E1 E2
      go_wp2_with (go_at_call 18; refine (Bound.awake_any _).mono ?_; rintro e0 w15 ⟨rfl, hc⟩; replace hW := Lib.hid (Buf.then_ hW.out hc); clear hc)
      go_ret
      exact ⟨rfl, hW.out⟩
end Laws
end Go.Proofs.Ytmjfafphfkadgaa
