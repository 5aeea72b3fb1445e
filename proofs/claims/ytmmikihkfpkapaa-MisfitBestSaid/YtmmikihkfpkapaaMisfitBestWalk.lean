/- The walk of MisfitBest. -/
import Derived.Test.YtmmikihkfpkapaaRmCF
import Derived.Test.YtmmikihkfpkapaaMisP
import Derived.Test.YtmmikihkfpkapaaMisE
import Derived.Test.YtmmikihkfpkapaaInvAB
import Derived.Test.YtmmikihkfpkapaaQuiet
import Derived.Deep.CutBlock
import Derived.Deep.DeepCutAuto
set_option linter.unusedVariables false
set_option linter.unusedSimpArgs false
namespace Go.Proofs.Ytmmikihkfpkapaa
open Go.RowKit Qt Mis
namespace Laws
structure Ckp (p : Prop) : Prop where
  out : p
theorem zfun_bd {w : World} {a b c d e f s : Int} {b1 b2 n : Nat} {lo hi : List Int} (R : Rg a b c d e f) (W : Bound.Wide w s b1 b2 n lo hi) {q : Ph} (h : PhS q) :
    -4398046511104 ≤ (zfun s lo hi a b c d e f q).1 ∧ (zfun s lo hi a b c d e f q).1 ≤ 4398046511104 ∧ -4398046511104 ≤ (zfun s lo hi a b c d e f q).2 ∧ (zfun s lo hi a b c d e f q).2 ≤ 4398046511104 := by
  have z := zk_of R (Sub.refl R.bv) W h
  have e0 := h.e0; have el := h.el; have l9 := h.l9; have i1 := z.lo0; have i2 := z.lh; have i3 := z.h9
  unfold zfun
  dsimp only
  omega
set_option maxHeartbeats 16000000 in
set_option maxRecDepth 100000 in
noncomputable def ck_root : (P_ma : Prop) ×' (Ckp P_ma → ∀ (a0 : Option Addr) (len0 cap0 : Nat) (z0 : List Int) (at_ : Int) (w : World) (w0 : Buf.IsRow .i64 w a0 len0 cap0 z0), Calls Try.prog 3 #[.slice a0 len0 cap0, .int .i64 at_] w fun e w' => e = .returned (.bool true) ∧ Below w.heap.size w w') := by
  apply PSigma.mk
  case snd =>
    intro hck_ma
    intro a0 len0 cap0 z0 at_ w w0
    have AW := Lib.hid Mis.awake_any
    go_enter Try.func3, Try.ntmps3
    go_wp2_with fail
    refine (Src.new_any a0 len0 cap0 z0 w w0).mono ?_
    rintro e0 wA ⟨rfl, m, hd⟩
    have L0 := Lib.hid (Src.Left.refl hd)
    have sA : w.heap.size < wA.heap.size := hd.lt
    obtain ⟨g, hg⟩ : ∃ g, g = w.heap.size := ⟨_, rfl⟩
    rw [← hg] at L0 sA ⊢
    have hgl : g ≤ w.heap.size := by omega
    clear hd w0 hg
    go_wp2_with fail
    refine (problem_any 30 7 (by decide) (by decide) (by decide) (by decide) L0.out.di).mono ?_
    rintro e0 w2 ⟨⟨a1, a2, a3, d1, d2, d3, s, b1, b2, n, c1, c2, lo, hi, gp, cpp, L, cp, nl, rfl, hnl, P⟩, hl⟩
    have R := P.rg (by decide)
    have cp0 := P.c0
    have cp9 := P.c9
    have n1 := P.n1
    have n9 := P.n9
    have le := P.le
    have hx := P.mx
    have gB := P.gB
    have hL := P.ph.s
    have Hn := Lib.hid hnl
    have n1' : 1 ≤ nl := by omega
    have n9' : nl ≤ 7 := by omega
    have hcp' : nl ≤ cpp := by omega
    replace n1 := Lib.hid n1
    replace n9 := Lib.hid n9
    clear hnl le
    have s2 : wA.heap.size ≤ w2.heap.size := hl.far.size
    have L2 := Lib.hid (Src.Left.refl (L0.out.trans hl).di)
    clear hl L0
    obtain ⟨w3, hw3⟩ : ∃ w3, w3 = w2.alloc (.cells #[.int .i64 a1, .int .i64 a2, .int .i64 a3, .int .i64 d1, .int .i64 d2, .int .i64 d3, .int .i64 s, .slice (some ⟨b1, 0, none⟩) n c1, .slice (some ⟨b2, 0, none⟩) n c2, .slice (some ⟨gp, 0, none⟩) nl cpp, .int .i64 cp] 33) := ⟨_, rfl⟩
    have Y1 : Below w2.heap.size w2 w3 := by rw [hw3]; exact new_block _
    have K4 := Lib.hid (show w3.heap[w2.heap.size]? = some (.cells #[.int .i64 a1, .int .i64 a2, .int .i64 a3, .int .i64 d1, .int .i64 d2, .int .i64 d3, .int .i64 s, .slice (some ⟨b1, 0, none⟩) n c1, .slice (some ⟨b2, 0, none⟩) n c2, .slice (some ⟨gp, 0, none⟩) nl cpp, .int .i64 cp] 33 (0, 0)) by rw [hw3]; exact heap_alloc_new w2 _)
    go_upto_region 3 with fail
    rw [← hw3]
    clear hw3
    obtain ⟨b4, hb4⟩ : ∃ b4, b4 = w2.heap.size := ⟨_, rfl⟩
    have N4 : b4 ≠ g := by omega
    have Np : gp ≠ g := by omega
    rw [← hb4] at K4 ⊢
    clear hb4
    have W3 := P.tv.below Y1
    have PRd := Lib.hid (P.pr.below Y1)
    replace L2 := Lib.hid (L2.out.below Y1)
    have sw3 : g < w3.heap.size := by have := Y1.size; omega
    clear Y1 P gB sA s2
    have CS := Lib.hid (cs_of R (Sub.refl R.bv) W3 hL n1.out (Nat.le_trans n9.out (by decide)) cp0 (by omega))
    have ZW := Lib.hid (zw_of R (Sub.refl R.bv) W3 hL cp0)
    have ZZ := Lib.hid (rzones_any R W3 hL n1.out (Nat.le_trans n9.out (by decide)) cp0 (by omega) PRd.out Hn.out (by omega) c1 c2 a1 a2 a3 d1 d2 d3 (Sub.refl R.bv))
    have ZB := Lib.hid (show ∀ k, k < nl → -4398046511104 ≤ (zn (L.map (zfun s lo hi a1 a2 a3 d1 d2 d3)) k).1 ∧ (zn (L.map (zfun s lo hi a1 a2 a3 d1 d2 d3)) k).1 ≤ 4398046511104 ∧ -4398046511104 ≤ (zn (L.map (zfun s lo hi a1 a2 a3 d1 d2 d3)) k).2 ∧ (zn (L.map (zfun s lo hi a1 a2 a3 d1 d2 d3)) k).2 ≤ 4398046511104 from fun k hk => by
      obtain ⟨q, hq⟩ : ∃ q, L[k]? = some q := ⟨L[k]'(by rw [← Hn.out]; exact hk), List.getElem?_eq_getElem _⟩
      rw [zn_map hq]; exact zfun_bd R W3 (hL k q hq))
    have ZL := Lib.hid (show (L.map (zfun s lo hi a1 a2 a3 d1 d2 d3)).length = nl by rw [List.length_map]; exact Hn.out.symm)
    generalize L.map (zfun s lo hi a1 a2 a3 d1 d2 d3) = Z at *
    clear W3 hL R
    obtain ⟨a0_, a1_, a2_, a3_, a4_, a5_, a6_, a7_, a8_, a9_, a10_⟩ := c11 K4.out
    go_wp2_with fail
    with_reducible refine ZZ.out.mono ?_
    rintro e0 w5 ⟨⟨v, rfl, oz⟩, hb5⟩
    obtain ⟨gz, cz, rfl, ZR, hcz, hczm, hgz⟩ := znR_of_own oz (by rw [ZL.out]; exact n1')
    rw [ZL.out] at hcz ⊢
    have ZRd := Lib.hid ZR
    have Nz : gz ≠ g := by omega
    replace K4 := Lib.hid (hb hb5 K4.out)
    replace PRd := Lib.hid (PRd.out.below hb5)
    replace L2 := Lib.hid (Src.Left.refl (L2.out.below hb5).di)
    clear ZR oz hgz hb5 ZZ a0_ a1_ a2_ a3_ a4_ a5_ a6_ a7_ a8_ a9_ a10_ sw3
    have CA := Lib.hid fun (t : Int) (t0 : -1125899906842624 ≤ t) (t1 : t ≤ 1125899906842624) (w' : World) (hp : PhR w' gp L) (hz : ZnR w' gz Z) => cost_any (w := w') a1 a2 a3 d1 d2 d3 s (some ⟨b1, 0, none⟩) (some ⟨b2, 0, none⟩) n n c1 c2 cp t CS.out hp hz (by rw [← Hn.out]; exact hcp') (by rw [← Hn.out]; exact hcz) hczm t0 t1 nl Hn.out
    have CB := Lib.hid fun (t : Int) (t0 : -1125899906842624 ≤ t) (t1 : t ≤ 1125899906842624) (w' : World) (hp : PhR w' gp L) (hz : ZnR w' gz Z) => rcost_any (w := w') a1 a2 a3 d1 d2 d3 s (some ⟨b1, 0, none⟩) (some ⟨b2, 0, none⟩) n n c1 c2 cp t CS.out hp hz (by rw [← Hn.out]; exact hcp') (by rw [← Hn.out]; exact hcz) hczm t0 t1 nl Hn.out
    have BA := Lib.hid fun (w' : World) (hp : PhR w' gp L) (hz : ZnR w' gz Z) => best_any (w := w') a1 a2 a3 d1 d2 d3 s (some ⟨b1, 0, none⟩) (some ⟨b2, 0, none⟩) n n c1 c2 cp CS.out hp hz (by rw [← Hn.out]; exact hcp') (by rw [← Hn.out]; exact hcz) hczm nl Hn.out
    have BB := Lib.hid fun (w' : World) (hp : PhR w' gp L) (hz : ZnR w' gz Z) => rbest_any (w := w') a1 a2 a3 d1 d2 d3 s (some ⟨b1, 0, none⟩) (some ⟨b2, 0, none⟩) n n c1 c2 cp CS.out hp hz (by rw [← Hn.out]; exact hcp') (by rw [← Hn.out]; exact hcz) hczm nl Hn.out
    have IB := best_is cp (wt L) (zn Z) nl (by omega)
    rw [← Hn.out] at ZW
    obtain ⟨tt, htt⟩ : ∃ t, t = (best cp (wt L) (zn Z) nl).1 := ⟨_, rfl⟩
    obtain ⟨mm, hmm⟩ : ∃ t, t = (best cp (wt L) (zn Z) nl).2 := ⟨_, rfl⟩
    rw [← htt, ← hmm] at BA BB IB
    have tb : -4398046511104 ≤ tt ∧ tt ≤ 4398046511104 := by
      obtain ⟨j, hj, e⟩ := IB.at_
      have zb := ZB.out (j / 2) (by omega)
      unfold cd at e
      split at e <;> omega
    obtain ⟨tb0, tb1⟩ := tb
    have EN : Hid (∃ j, j < nl ∧ (tt = (zn Z j).1 ∨ tt = (zn Z j).2)) := Lib.hid (by
      obtain ⟨j, hj, e⟩ := IB.at_
      refine ⟨j / 2, by omega, ?_⟩
      unfold cd at e
      split at e
      · exact .inl e
      · exact .inr e)
    have LE := Lib.hid (fun t => IB.least ZW.out (by omega) t)
    have IS := Lib.hid IB.is
    have mb : 0 ≤ mm ∧ mm ≤ 200000 * 64 := by
      have := ck_bd cp (wt L) (zn Z) tt (by omega) (by omega) nl (by rw [Hn.out]; exact CS.out.wts)
      rw [← IB.is] at this
      omega
    clear IB htt hmm ZW n1 n9 hx
    obtain ⟨a0_, a1_, a2_, a3_, a4_, a5_, a6_, a7_, a8_, a9_, a10_⟩ := c11 K4.out
    go_wp2_with fail
    with_reducible refine (BA.out _ PRd.out ZRd.out).mono ?_
    rintro e0 w6 ⟨rfl, hb6⟩
    replace K4 := Lib.hid (hb hb6 K4.out)
    replace PRd := Lib.hid (PRd.out.below hb6)
    replace ZRd := Lib.hid (ZRd.out.below hb6)
    replace L2 := Lib.hid (Src.Left.refl (L2.out.below hb6).di)
    clear hb6 BA a0_ a1_ a2_ a3_ a4_ a5_ a6_ a7_ a8_ a9_ a10_
    obtain ⟨a0_, a1_, a2_, a3_, a4_, a5_, a6_, a7_, a8_, a9_, a10_⟩ := c11 K4.out
    go_wp2_with fail
    with_reducible refine (BB.out _ PRd.out ZRd.out).mono ?_
    rintro e0 w7 ⟨rfl, hb7⟩
    replace K4 := Lib.hid (hb hb7 K4.out)
    replace PRd := Lib.hid (PRd.out.below hb7)
    replace ZRd := Lib.hid (ZRd.out.below hb7)
    replace L2 := Lib.hid (Src.Left.refl (L2.out.below hb7).di)
    clear hb7 BB a0_ a1_ a2_ a3_ a4_ a5_ a6_ a7_ a8_ a9_ a10_
    obtain ⟨a0_, a1_, a2_, a3_, a4_, a5_, a6_, a7_, a8_, a9_, a10_⟩ := c11 K4.out
    have CT := CA.out tt (by omega) (by omega)
    rw [← IS.out] at CT
    have CTh := Lib.hid CT
    clear CT
    have d1_ : (tt != tt) = false := by simp
    have d2_ : (mm != mm) = false := by simp
    go_wp2_with fail
    with_reducible refine (CTh.out _ PRd.out ZRd.out).mono ?_
    rintro e0 w8 ⟨rfl, hb8⟩
    replace K4 := Lib.hid (hb hb8 K4.out)
    replace PRd := Lib.hid (PRd.out.below hb8)
    replace ZRd := Lib.hid (ZRd.out.below hb8)
    replace L2 := Lib.hid (Src.Left.refl (L2.out.below hb8).di)
    clear hb8 CTh a0_ a1_ a2_ a3_ a4_ a5_ a6_ a7_ a8_ a9_ a10_
    rename_i mai0 mai1 mai2 mai3 mai4 mai5 mai6
    revert a0 len0 cap0 z0 at_ w AW mai0 wA m g hgl w2 a1 a2 a3 d1 d2 d3 s b1 b2 n c1 c2 lo hi gp cpp L cp nl cp0 cp9 Hn n1' n9' hcp' w3 b4 N4 Np Z CS ZB ZL w5 gz cz hcz hczm Nz CA CB tt mm tb0 tb1 EN LE IS mb w6 w7 d1_ d2_ mai1 mai2 mai3 mai4 mai5 mai6 w8 K4 PRd ZRd L2
    exact hck_ma.out
set_option maxHeartbeats 16000000 in
set_option maxRecDepth 100000 in
noncomputable def ck_ma : (P_mb : Prop) ×' (Ckp P_mb → ck_root.1) := by
  apply PSigma.mk
  case snd =>
    intro hck_mb
    intro a0 len0 cap0 z0 at_ w AW mai0 wA m g hgl w2 a1
      a2 a3 d1 d2 d3 s b1 b2 n c1 c2 lo hi gp
      cpp L cp nl cp0 cp9 Hn n1' n9' hcp' w3 b4 N4 Np
      Z CS ZB ZL w5 gz cz hcz hczm Nz CA CB tt mm
      tb0 tb1 EN LE IS mb w6 w7 d1_ d2_ mai1 mai2 mai3 mai4
      mai5 mai6 w8 K4 PRd ZRd L2

    obtain ⟨wE, hwE⟩ : ∃ z, z = w8 := ⟨_, rfl⟩
    rw [← hwE] at K4 PRd ZRd L2 ⊢
    clear hwE d1_ d2_
    go_wp2_with fail
    go_loopw [13, 62] (fun u i wr => ∃ (k : Nat) (e : Bool), k ≤ nl ∧ i = .int .i64 k ∧ u = .bool e ∧ Hid ((∃ j, j < k ∧ (tt = (zn Z j).1 ∨ tt = (zn Z j).2)) → e = true) ∧ wr = wE) (fun _ i _ => ((nl : Int) - intOf i).toNat)
    case atStart => exact ⟨0, false, Nat.zero_le _, rfl, rfl, Lib.hid (by rintro ⟨j, h, _⟩; omega), rfl⟩
    case round =>
      obtain ⟨k, en, hk, rfl, rfl, he, rfl⟩ := hrel
      by_cases hlt : k < nl
      · have hlt' : (k : Int) < nl := by omega
        have hlt2 : (k : Int) < cz := by omega
        obtain ⟨⟨z1, z2⟩, hzz⟩ : ∃ q, Z[k]? = some q := ⟨Z[k]'(by rw [ZL.out]; exact hlt), List.getElem?_eq_getElem _⟩
        obtain ⟨y1, y2⟩ := ZRd.out.2 k _ hzz
        have ez := zn_at hzz
        dsimp only at y1 y2
        have he2 : Hid ((∃ j, j < k + 1 ∧ (tt = (zn Z j).1 ∨ tt = (zn Z j).2)) → (en || (tt == z1 || tt == z2)) = true) := Lib.hid (by
          rintro ⟨j, h1, h2⟩
          by_cases hjk : j = k
          · subst hjk
            rw [ez] at h2
            rcases h2 with h2 | h2
            · simp [show tt = z1 from h2]
            · simp [show tt = z2 from h2]
          · rw [he.out ⟨j, by omega, h2⟩]; rfl)
        clear hzz ez he
        cases en with
        | true =>
          rw [Bool.true_or] at he2
          go_wp2_with fail
          go_roundw
          case rel => exact ⟨k + 1, true, by omega, by go_num, rfl, he2, trivial⟩
          case measure => simp [intOf]; omega
        | false =>
          rw [Bool.false_or] at he2
          cases h1 : (tt == z1) with
          | true =>
            rw [h1, Bool.true_or] at he2
            go_wp2_with fail
            go_roundw
            case rel => exact ⟨k + 1, true, by omega, by go_num, rfl, he2, trivial⟩
            case measure => simp [intOf]; omega
          | false =>
            rw [h1, Bool.false_or] at he2
            go_wp2_with fail
            go_roundw
            case rel => exact ⟨k + 1, (tt == z2), by omega, by go_num, rfl, he2, trivial⟩
            case measure => simp [intOf]; omega
      · obtain rfl : nl = k := by omega
        obtain rfl : en = true := he.out EN.out
        clear he hlt hk EN
        rename_i mbi0 mbi1
        revert a0 len0 cap0 z0 at_ w AW mai0 wA m g hgl w2 a1 a2 a3 d1 d2 d3 s b1 b2 n c1 c2 lo hi gp cpp L cp nl cp0 cp9 Hn n1' n9' hcp' w3 b4 N4 Np Z CS ZB ZL w5 gz cz hcz hczm Nz CA CB tt mm tb0 tb1 LE IS mb w6 w7 w8 mbi0 mbi1 wr u14 u63 u64 u65 u66 u67 u68 u69 u70 u71 u72 u73 u74 u75 u76 u77 u78 u79 u80 u81 u82 u83 u84 L2 ZRd PRd K4
        exact hck_mb.out
set_option maxHeartbeats 16000000 in
set_option maxRecDepth 100000 in
noncomputable def ck_mb : (P_mc : Prop) ×' (Ckp P_mc → ck_ma.1) := by
  apply PSigma.mk
  case snd =>
    intro hck_mc
    intro a0 len0 cap0 z0 at_ w AW mai0 wA m g hgl w2 a1
      a2 a3 d1 d2 d3 s b1 b2 n c1 c2 lo hi gp
      cpp L cp nl cp0 cp9 Hn n1' n9' hcp' w3 b4 N4 Np
      Z CS ZB ZL w5 gz cz hcz hczm Nz CA CB tt mm
      tb0 tb1 LE IS mb w6 w7 w8 mbi0 mbi1 wr u14 u63 u64
      u65 u66 u67 u68 u69 u70 u71 u72 u73 u74 u75 u76 u77 u78
      u79 u80 u81 u82 u83 u84 L2 ZRd PRd K4

    obtain ⟨⟨x1, x2⟩, hzz⟩ : ∃ q, Z[0]? = some q := ⟨Z[0]'(by rw [ZL.out]; omega), List.getElem?_eq_getElem _⟩
    have zb := ZB.out 0 (by omega)
    rw [zn_at hzz] at zb
    obtain ⟨xb1, xb2, xb3, xb4⟩ := zb
    dsimp only at xb1 xb2 xb3 xb4
    have X1 := Lib.hid fun wz (hl : Src.Left w wr wz g a0 m cap0 z0) => (ZRd.out.kept (hl.far.block gz ZRd.out.1 (by simp; omega)) hl.far.size).2 0 _ hzz
    have X2 := Lib.hid fun wz (hl : Src.Left w wr wz g a0 m cap0 z0) => (c11 (hl.blk K4.out N4)).2.2.2.2.2.2.2.2.2.2
    have z0' : (0 : Int) < nl := by omega
    have z1' : (0 : Int) < cz := by omega
    dsimp only at X1
    replace hzz := Lib.hid hzz
    obtain ⟨wq, hwq⟩ : ∃ z, z = wr := ⟨_, rfl⟩
    rw [← hwq] at X1 X2 K4 PRd ZRd L2 ⊢
    clear hwq
    go_upto_region 16 with fail
    refine wp_region_noPanic ?_
    refine wp_region_any (by kernel_rfl) ?_
    refine Inv.wpAny_inv (fun k => false) [85, 86, 87, 88, 89, 90, 91, 92, 93, 94, 95, 96, 97, 98, 99, 100, 101, 102, 103, 104, 105, 106, 107, 108, 109, 110, 111, 112, 113, 114, 115, 116] (fun w' => Src.Left w wq w' g a0 m cap0 z0) (fun _ w1 w2 => w1.grownBy w2 (some g)) (fun k => ([fun v_ w_ => v_ = .int .i64 at_, fun v_ w_ => ∃ y : Int, v_ = .int .i64 y ∧ 0 ≤ y ∧ y < 6000, fun v_ w_ => ∃ y : Int, v_ = .int .i64 y ∧ -1000 ≤ y ∧ y < 5000, fun v_ w_ => v_ = .int .i64 tt, fun v_ w_ => v_ = .int .i64 (tt - 1), fun v_ w_ => v_ = .int .i64 tt, fun v_ w_ => v_ = .int .i64 (tt + 1), fun v_ w_ => v_ = .int .i64 tt, fun v_ w_ => v_ = .pointer (some ⟨g, 0, none⟩), fun v_ w_ => ∃ y : Int, v_ = .int .i64 y ∧ 0 ≤ y ∧ y < 500, fun v_ w_ => ∃ y : Int, v_ = .int .i64 y ∧ -4398046512000 ≤ y ∧ y ≤ 4398046512000, fun v_ w_ => v_ = .int .i64 tt, fun v_ w_ => v_ = .pointer (some ⟨g, 0, none⟩), fun v_ w_ => ∃ y : Int, v_ = .int .i64 y ∧ 0 ≤ y ∧ y < 500, fun v_ w_ => ∃ y : Int, v_ = .int .i64 y ∧ -4398046512000 ≤ y ∧ y ≤ 4398046512000, fun v_ w_ => v_ = .slice (some ⟨gz, 0, none⟩) nl cz, fun v_ w_ => v_ = .pointer (some ⟨gz, 0, none⟩), fun v_ w_ => v_ = .pointer (some ⟨gz, 1, none⟩), fun v_ w_ => v_ = .int .i64 x2, fun v_ w_ => v_ = .pointer (some ⟨b4, 10, none⟩), fun v_ w_ => v_ = .int .i64 cp, fun v_ w_ => v_ = .int .i64 (x2 + cp), fun v_ w_ => v_ = .slice (some ⟨gz, 0, none⟩) nl cz, fun v_ w_ => v_ = .pointer (some ⟨gz, 0, none⟩), fun v_ w_ => v_ = .pointer (some ⟨gz, 0, none⟩), fun v_ w_ => v_ = .int .i64 x1, fun v_ w_ => v_ = .pointer (some ⟨b4, 10, none⟩), fun v_ w_ => v_ = .int .i64 cp, fun v_ w_ => v_ = .int .i64 (x1 - cp), fun v_ w_ => ∃ (hh : Nat) (y1 y2 y3 : Int), v_ = .slice (some ⟨hh, 0, none⟩) 7 7 ∧ hh ≠ g ∧ w_.heap[hh]? = some (.cells #[.int .i64 y1, .int .i64 (tt - 1), .int .i64 (tt + 1), .int .i64 y2, .int .i64 y3, .int .i64 (x2 + cp), .int .i64 (x1 - cp)] 3 (0, 0)) ∧ (-1000 ≤ y1 ∧ y1 < 5000) ∧ (-4398046512000 ≤ y2 ∧ y2 ≤ 4398046512000) ∧ (-4398046512000 ≤ y3 ∧ y3 ≤ 4398046512000), fun v_ w_ => v_ = .int .i64 7, fun v_ w_ => v_ = .int .i64 0] : List (Value → World → Prop)).getD k (fun _ _ => True)) _ (fun σ => by simp only [Inv.putAll, List.foldl_cons, List.foldl_nil, Act.put, List.setIfInBounds_toArray, List.set_cons_zero, List.set_cons_succ]; rfl) (by kernel_rfl) (by kernel_rfl) ?_ (L2.out.drew) ?_ ?_ 0 #[true, true, true, true, true, true, true, true, true, true, true, true, true, true, true, true, true, true, true, true, true, true, true, true, true, true, true, true, true, true, true, true] (by kernel_rfl) (by kernel_rfl) ?_
    · intro j k v w1 w2 hjk hv hr
      rcases k with _ | k
      · exact hv
      rcases k with _ | k
      · exact hv
      rcases k with _ | k
      · exact hv
      rcases k with _ | k
      · exact hv
      rcases k with _ | k
      · exact hv
      rcases k with _ | k
      · exact hv
      rcases k with _ | k
      · exact hv
      rcases k with _ | k
      · exact hv
      rcases k with _ | k
      · exact hv
      rcases k with _ | k
      · exact hv
      rcases k with _ | k
      · exact hv
      rcases k with _ | k
      · exact hv
      rcases k with _ | k
      · exact hv
      rcases k with _ | k
      · exact hv
      rcases k with _ | k
      · exact hv
      rcases k with _ | k
      · exact hv
      rcases k with _ | k
      · exact hv
      rcases k with _ | k
      · exact hv
      rcases k with _ | k
      · exact hv
      rcases k with _ | k
      · exact hv
      rcases k with _ | k
      · exact hv
      rcases k with _ | k
      · exact hv
      rcases k with _ | k
      · exact hv
      rcases k with _ | k
      · exact hv
      rcases k with _ | k
      · exact hv
      rcases k with _ | k
      · exact hv
      rcases k with _ | k
      · exact hv
      rcases k with _ | k
      · exact hv
      rcases k with _ | k
      · exact hv
      rcases k with _ | k
      · exact by obtain ⟨h, y1, y2, y3, h1, h2, h3, h4⟩ := hv; exact ⟨h, y1, y2, y3, h1, h2, (hr.block h (Array.getElem?_eq_some_iff.1 h3).1 (by simpa using h2)).trans h3, h4⟩
      rcases k with _ | k
      · exact hv
      rcases k with _ | k
      · exact hv
      · exact hv
    · intro k t hl hd
      rcases k with _ | k
      · exact absurd hl (by decide +kernel)
      rcases k with _ | k
      · exact absurd hl (by decide +kernel)
      rcases k with _ | k
      · exact absurd hl (by decide +kernel)
      rcases k with _ | k
      · exact absurd hl (by decide +kernel)
      rcases k with _ | k
      · exact absurd hl (by decide +kernel)
      rcases k with _ | k
      · exact absurd hl (by decide +kernel)
      rcases k with _ | k
      · exact absurd hl (by decide +kernel)
      rcases k with _ | k
      · exact absurd hl (by decide +kernel)
      rcases k with _ | k
      · exact absurd hl (by decide +kernel)
      rcases k with _ | k
      · exact absurd hl (by decide +kernel)
      rcases k with _ | k
      · exact absurd hl (by decide +kernel)
      rcases k with _ | k
      · exact absurd hl (by decide +kernel)
      rcases k with _ | k
      · exact absurd hl (by decide +kernel)
      rcases k with _ | k
      · exact absurd hl (by decide +kernel)
      rcases k with _ | k
      · exact absurd hl (by decide +kernel)
      rcases k with _ | k
      · exact absurd hl (by decide +kernel)
      rcases k with _ | k
      · exact absurd hl (by decide +kernel)
      rcases k with _ | k
      · exact absurd hl (by decide +kernel)
      rcases k with _ | k
      · exact absurd hl (by decide +kernel)
      rcases k with _ | k
      · exact absurd hl (by decide +kernel)
      rcases k with _ | k
      · exact absurd hl (by decide +kernel)
      rcases k with _ | k
      · exact absurd hl (by decide +kernel)
      rcases k with _ | k
      · exact absurd hl (by decide +kernel)
      rcases k with _ | k
      · exact absurd hl (by decide +kernel)
      rcases k with _ | k
      · exact absurd hl (by decide +kernel)
      rcases k with _ | k
      · exact absurd hl (by decide +kernel)
      rcases k with _ | k
      · exact absurd hl (by decide +kernel)
      rcases k with _ | k
      · exact absurd hl (by decide +kernel)
      rcases k with _ | k
      · exact absurd hl (by decide +kernel)
      rcases k with _ | k
      · exact absurd hl (by decide +kernel)
      rcases k with _ | k
      · exact absurd hl (by decide +kernel)
      rcases k with _ | k
      · exact absurd hl (by decide +kernel)
      · simp at hd
    · show Inv.Steps _ _ _ _ _ _ _ _ [0, 1, 2, 3, 4, 5, 6, 7, 8, 9, 10, 11, 12, 13, 14, 15, 16, 17, 18, 19, 20, 21, 22, 23, 24, 25, 26, 27, 28, 29, 30, 31]
      refine Inv.Steps.go (by decide) (by rfl) (fun σ wx hw hd K hK => ?_) ?_
      · simp only [List.getElem_toArray, List.getElem_cons_zero, List.getElem_cons_succ, Act.put, List.setIfInBounds_toArray, List.set_cons_zero, List.set_cons_succ] at hK ⊢
        go_simp
        exact hK.out _ _ hw (World.grownBy.refl _ _) (rfl)
      refine Inv.Steps.go (by decide) (by rfl) (fun σ wx hw hd K hK => ?_) ?_
      · obtain e85 : (σ 85) = .int .i64 at_ := hd 0 (some 85) (by kernel_rfl) (by rfl)
        simp only [List.getElem_toArray, List.getElem_cons_zero, List.getElem_cons_succ, Act.put, List.setIfInBounds_toArray, List.set_cons_zero, List.set_cons_succ, e85] at hK ⊢
        go_simp
        go_at_call 20
        refine (Keep.mod_any at_ 6000 wx (by omega) (by omega)).mono ?_
        rintro e w1 ⟨rfl, hw1⟩
        replace hw1 := hw1.symm
        subst hw1
        dsimp only
        exact hK.out _ _ hw (World.grownBy.refl _ _) (⟨_, rfl, by omega, by omega⟩)
      refine Inv.Steps.go (by decide) (by rfl) (fun σ wx hw hd K hK => ?_) ?_
      · obtain ⟨y1, e86, y1a, y1b⟩ : ∃ y : Int, (σ 86) = .int .i64 y ∧ 0 ≤ y ∧ y < 6000 := hd 1 (some 86) (by kernel_rfl) (by rfl)
        simp only [List.getElem_toArray, List.getElem_cons_zero, List.getElem_cons_succ, Act.put, List.setIfInBounds_toArray, List.set_cons_zero, List.set_cons_succ, e86] at hK ⊢
        have wr_ : IntKind.i64.wrap (y1 - 1000) = y1 - 1000 := IntWalk.i64_in _ (by omega)
        go_simp
        try rw [wr_]
        exact hK.out _ _ hw (World.grownBy.refl _ _) (⟨_, rfl, by omega, by omega⟩)
      refine Inv.Steps.go (by decide) (by rfl) (fun σ wx hw hd K hK => ?_) ?_
      · simp only [List.getElem_toArray, List.getElem_cons_zero, List.getElem_cons_succ, Act.put, List.setIfInBounds_toArray, List.set_cons_zero, List.set_cons_succ] at hK ⊢
        go_simp
        exact hK.out _ _ hw (World.grownBy.refl _ _) (rfl)
      refine Inv.Steps.go (by decide) (by rfl) (fun σ wx hw hd K hK => ?_) ?_
      · obtain e88 : (σ 88) = .int .i64 tt := hd 3 (some 88) (by kernel_rfl) (by rfl)
        simp only [List.getElem_toArray, List.getElem_cons_zero, List.getElem_cons_succ, Act.put, List.setIfInBounds_toArray, List.set_cons_zero, List.set_cons_succ, e88] at hK ⊢
        have wr_ : IntKind.i64.wrap (tt - 1) = tt - 1 := IntWalk.i64_in _ (by omega)
        go_simp
        try rw [wr_]
        exact hK.out _ _ hw (World.grownBy.refl _ _) (rfl)
      refine Inv.Steps.go (by decide) (by rfl) (fun σ wx hw hd K hK => ?_) ?_
      · simp only [List.getElem_toArray, List.getElem_cons_zero, List.getElem_cons_succ, Act.put, List.setIfInBounds_toArray, List.set_cons_zero, List.set_cons_succ] at hK ⊢
        go_simp
        exact hK.out _ _ hw (World.grownBy.refl _ _) (rfl)
      refine Inv.Steps.go (by decide) (by rfl) (fun σ wx hw hd K hK => ?_) ?_
      · obtain e90 : (σ 90) = .int .i64 tt := hd 5 (some 90) (by kernel_rfl) (by rfl)
        simp only [List.getElem_toArray, List.getElem_cons_zero, List.getElem_cons_succ, Act.put, List.setIfInBounds_toArray, List.set_cons_zero, List.set_cons_succ, e90] at hK ⊢
        have wr_ : IntKind.i64.wrap (tt + 1) = tt + 1 := IntWalk.i64_in _ (by omega)
        go_simp
        try rw [wr_]
        exact hK.out _ _ hw (World.grownBy.refl _ _) (rfl)
      refine Inv.Steps.go (by decide) (by rfl) (fun σ wx hw hd K hK => ?_) ?_
      · simp only [List.getElem_toArray, List.getElem_cons_zero, List.getElem_cons_succ, Act.put, List.setIfInBounds_toArray, List.set_cons_zero, List.set_cons_succ] at hK ⊢
        go_simp
        exact hK.out _ _ hw (World.grownBy.refl _ _) (rfl)
      refine Inv.Steps.go (by decide) (by rfl) (fun σ wx hw hd K hK => ?_) ?_
      · simp only [List.getElem_toArray, List.getElem_cons_zero, List.getElem_cons_succ, Act.put, List.setIfInBounds_toArray, List.set_cons_zero, List.set_cons_succ] at hK ⊢
        go_simp
        exact hK.out _ _ hw (World.grownBy.refl _ _) (rfl)
      refine Inv.Steps.go (by decide) (by rfl) (fun σ wx hw hd K hK => ?_) ?_
      · obtain e93 : (σ 93) = .pointer (some ⟨g, 0, none⟩) := hd 8 (some 93) (by kernel_rfl) (by rfl)
        simp only [List.getElem_toArray, List.getElem_cons_zero, List.getElem_cons_succ, Act.put, List.setIfInBounds_toArray, List.set_cons_zero, List.set_cons_succ, e93] at hK ⊢
        go_simp
        go_at_call 21
        refine (Src.n_any 500 hw.di (by omega) (by omega)).mono ?_
        rintro e w1 ⟨⟨y_, rfl, ya_, yb_⟩, hl_⟩
        dsimp only
        exact hK.out _ _ (hw.trans hl_) hl_.far (⟨_, rfl, ya_, yb_⟩)
      refine Inv.Steps.go (by decide) (by rfl) (fun σ wx hw hd K hK => ?_) ?_
      · obtain e92 : (σ 92) = .int .i64 tt := hd 7 (some 92) (by kernel_rfl) (by rfl)
        obtain ⟨y2, e94, y2a, y2b⟩ : ∃ y : Int, (σ 94) = .int .i64 y ∧ 0 ≤ y ∧ y < 500 := hd 9 (some 94) (by kernel_rfl) (by rfl)
        simp only [List.getElem_toArray, List.getElem_cons_zero, List.getElem_cons_succ, Act.put, List.setIfInBounds_toArray, List.set_cons_zero, List.set_cons_succ, e92, e94] at hK ⊢
        have wr_ : IntKind.i64.wrap (tt - y2) = tt - y2 := IntWalk.i64_in _ (by omega)
        go_simp
        try rw [wr_]
        exact hK.out _ _ hw (World.grownBy.refl _ _) (⟨_, rfl, by omega, by omega⟩)
      refine Inv.Steps.go (by decide) (by rfl) (fun σ wx hw hd K hK => ?_) ?_
      · simp only [List.getElem_toArray, List.getElem_cons_zero, List.getElem_cons_succ, Act.put, List.setIfInBounds_toArray, List.set_cons_zero, List.set_cons_succ] at hK ⊢
        go_simp
        exact hK.out _ _ hw (World.grownBy.refl _ _) (rfl)
      refine Inv.Steps.go (by decide) (by rfl) (fun σ wx hw hd K hK => ?_) ?_
      · simp only [List.getElem_toArray, List.getElem_cons_zero, List.getElem_cons_succ, Act.put, List.setIfInBounds_toArray, List.set_cons_zero, List.set_cons_succ] at hK ⊢
        go_simp
        exact hK.out _ _ hw (World.grownBy.refl _ _) (rfl)
      refine Inv.Steps.go (by decide) (by rfl) (fun σ wx hw hd K hK => ?_) ?_
      · obtain e97 : (σ 97) = .pointer (some ⟨g, 0, none⟩) := hd 12 (some 97) (by kernel_rfl) (by rfl)
        simp only [List.getElem_toArray, List.getElem_cons_zero, List.getElem_cons_succ, Act.put, List.setIfInBounds_toArray, List.set_cons_zero, List.set_cons_succ, e97] at hK ⊢
        go_simp
        go_at_call 21
        refine (Src.n_any 500 hw.di (by omega) (by omega)).mono ?_
        rintro e w1 ⟨⟨y_, rfl, ya_, yb_⟩, hl_⟩
        dsimp only
        exact hK.out _ _ (hw.trans hl_) hl_.far (⟨_, rfl, ya_, yb_⟩)
      refine Inv.Steps.go (by decide) (by rfl) (fun σ wx hw hd K hK => ?_) ?_
      · obtain e96 : (σ 96) = .int .i64 tt := hd 11 (some 96) (by kernel_rfl) (by rfl)
        obtain ⟨y3, e98, y3a, y3b⟩ : ∃ y : Int, (σ 98) = .int .i64 y ∧ 0 ≤ y ∧ y < 500 := hd 13 (some 98) (by kernel_rfl) (by rfl)
        simp only [List.getElem_toArray, List.getElem_cons_zero, List.getElem_cons_succ, Act.put, List.setIfInBounds_toArray, List.set_cons_zero, List.set_cons_succ, e96, e98] at hK ⊢
        have wr_ : IntKind.i64.wrap (tt + y3) = tt + y3 := IntWalk.i64_in _ (by omega)
        go_simp
        try rw [wr_]
        exact hK.out _ _ hw (World.grownBy.refl _ _) (⟨_, rfl, by omega, by omega⟩)
      refine Inv.Steps.go (by decide) (by rfl) (fun σ wx hw hd K hK => ?_) ?_
      · simp only [List.getElem_toArray, List.getElem_cons_zero, List.getElem_cons_succ, Act.put, List.setIfInBounds_toArray, List.set_cons_zero, List.set_cons_succ] at hK ⊢
        go_simp
        exact hK.out _ _ hw (World.grownBy.refl _ _) (rfl)
      refine Inv.Steps.go (by decide) (by rfl) (fun σ wx hw hd K hK => ?_) ?_
      · obtain e100 : (σ 100) = .slice (some ⟨gz, 0, none⟩) nl cz := hd 15 (some 100) (by kernel_rfl) (by rfl)
        simp only [List.getElem_toArray, List.getElem_cons_zero, List.getElem_cons_succ, Act.put, List.setIfInBounds_toArray, List.set_cons_zero, List.set_cons_succ, e100] at hK ⊢
        have zi_ : ¬ ((nl : Int) ≤ 0) := by omega
        have zj_ : 0 < nl := by omega
        go_simp
        exact hK.out _ _ hw (World.grownBy.refl _ _) (rfl)
      refine Inv.Steps.go (by decide) (by rfl) (fun σ wx hw hd K hK => ?_) ?_
      · obtain e101 : (σ 101) = .pointer (some ⟨gz, 0, none⟩) := hd 16 (some 101) (by kernel_rfl) (by rfl)
        simp only [List.getElem_toArray, List.getElem_cons_zero, List.getElem_cons_succ, Act.put, List.setIfInBounds_toArray, List.set_cons_zero, List.set_cons_succ, e101] at hK ⊢
        go_simp
        exact hK.out _ _ hw (World.grownBy.refl _ _) (rfl)
      refine Inv.Steps.go (by decide) (by rfl) (fun σ wx hw hd K hK => ?_) ?_
      · obtain e102 : (σ 102) = .pointer (some ⟨gz, 1, none⟩) := hd 17 (some 102) (by kernel_rfl) (by rfl)
        simp only [List.getElem_toArray, List.getElem_cons_zero, List.getElem_cons_succ, Act.put, List.setIfInBounds_toArray, List.set_cons_zero, List.set_cons_succ, e102] at hK ⊢
        obtain ⟨k1_, k2_⟩ := X1.out _ hw
        go_simp
        exact hK.out _ _ hw (World.grownBy.refl _ _) (rfl)
      refine Inv.Steps.go (by decide) (by rfl) (fun σ wx hw hd K hK => ?_) ?_
      · simp only [List.getElem_toArray, List.getElem_cons_zero, List.getElem_cons_succ, Act.put, List.setIfInBounds_toArray, List.set_cons_zero, List.set_cons_succ] at hK ⊢
        go_simp
        exact hK.out _ _ hw (World.grownBy.refl _ _) (rfl)
      refine Inv.Steps.go (by decide) (by rfl) (fun σ wx hw hd K hK => ?_) ?_
      · obtain e104 : (σ 104) = .pointer (some ⟨b4, 10, none⟩) := hd 19 (some 104) (by kernel_rfl) (by rfl)
        simp only [List.getElem_toArray, List.getElem_cons_zero, List.getElem_cons_succ, Act.put, List.setIfInBounds_toArray, List.set_cons_zero, List.set_cons_succ, e104] at hK ⊢
        have k3_ := X2.out _ hw
        go_simp
        exact hK.out _ _ hw (World.grownBy.refl _ _) (rfl)
      refine Inv.Steps.go (by decide) (by rfl) (fun σ wx hw hd K hK => ?_) ?_
      · obtain e103 : (σ 103) = .int .i64 x2 := hd 18 (some 103) (by kernel_rfl) (by rfl)
        obtain e105 : (σ 105) = .int .i64 cp := hd 20 (some 105) (by kernel_rfl) (by rfl)
        simp only [List.getElem_toArray, List.getElem_cons_zero, List.getElem_cons_succ, Act.put, List.setIfInBounds_toArray, List.set_cons_zero, List.set_cons_succ, e103, e105] at hK ⊢
        have wr_ : IntKind.i64.wrap (x2 + cp) = x2 + cp := IntWalk.i64_in _ (by omega)
        go_simp
        try rw [wr_]
        exact hK.out _ _ hw (World.grownBy.refl _ _) (rfl)
      refine Inv.Steps.go (by decide) (by rfl) (fun σ wx hw hd K hK => ?_) ?_
      · simp only [List.getElem_toArray, List.getElem_cons_zero, List.getElem_cons_succ, Act.put, List.setIfInBounds_toArray, List.set_cons_zero, List.set_cons_succ] at hK ⊢
        go_simp
        exact hK.out _ _ hw (World.grownBy.refl _ _) (rfl)
      refine Inv.Steps.go (by decide) (by rfl) (fun σ wx hw hd K hK => ?_) ?_
      · obtain e107 : (σ 107) = .slice (some ⟨gz, 0, none⟩) nl cz := hd 22 (some 107) (by kernel_rfl) (by rfl)
        simp only [List.getElem_toArray, List.getElem_cons_zero, List.getElem_cons_succ, Act.put, List.setIfInBounds_toArray, List.set_cons_zero, List.set_cons_succ, e107] at hK ⊢
        have zi_ : ¬ ((nl : Int) ≤ 0) := by omega
        have zj_ : 0 < nl := by omega
        go_simp
        exact hK.out _ _ hw (World.grownBy.refl _ _) (rfl)
      refine Inv.Steps.go (by decide) (by rfl) (fun σ wx hw hd K hK => ?_) ?_
      · obtain e108 : (σ 108) = .pointer (some ⟨gz, 0, none⟩) := hd 23 (some 108) (by kernel_rfl) (by rfl)
        simp only [List.getElem_toArray, List.getElem_cons_zero, List.getElem_cons_succ, Act.put, List.setIfInBounds_toArray, List.set_cons_zero, List.set_cons_succ, e108] at hK ⊢
        go_simp
        exact hK.out _ _ hw (World.grownBy.refl _ _) (rfl)
      refine Inv.Steps.go (by decide) (by rfl) (fun σ wx hw hd K hK => ?_) ?_
      · obtain e109 : (σ 109) = .pointer (some ⟨gz, 0, none⟩) := hd 24 (some 109) (by kernel_rfl) (by rfl)
        simp only [List.getElem_toArray, List.getElem_cons_zero, List.getElem_cons_succ, Act.put, List.setIfInBounds_toArray, List.set_cons_zero, List.set_cons_succ, e109] at hK ⊢
        obtain ⟨k1_, k2_⟩ := X1.out _ hw
        go_simp
        exact hK.out _ _ hw (World.grownBy.refl _ _) (rfl)
      refine Inv.Steps.go (by decide) (by rfl) (fun σ wx hw hd K hK => ?_) ?_
      · simp only [List.getElem_toArray, List.getElem_cons_zero, List.getElem_cons_succ, Act.put, List.setIfInBounds_toArray, List.set_cons_zero, List.set_cons_succ] at hK ⊢
        go_simp
        exact hK.out _ _ hw (World.grownBy.refl _ _) (rfl)
      refine Inv.Steps.go (by decide) (by rfl) (fun σ wx hw hd K hK => ?_) ?_
      · obtain e111 : (σ 111) = .pointer (some ⟨b4, 10, none⟩) := hd 26 (some 111) (by kernel_rfl) (by rfl)
        simp only [List.getElem_toArray, List.getElem_cons_zero, List.getElem_cons_succ, Act.put, List.setIfInBounds_toArray, List.set_cons_zero, List.set_cons_succ, e111] at hK ⊢
        have k3_ := X2.out _ hw
        go_simp
        exact hK.out _ _ hw (World.grownBy.refl _ _) (rfl)
      refine Inv.Steps.go (by decide) (by rfl) (fun σ wx hw hd K hK => ?_) ?_
      · obtain e110 : (σ 110) = .int .i64 x1 := hd 25 (some 110) (by kernel_rfl) (by rfl)
        obtain e112 : (σ 112) = .int .i64 cp := hd 27 (some 112) (by kernel_rfl) (by rfl)
        simp only [List.getElem_toArray, List.getElem_cons_zero, List.getElem_cons_succ, Act.put, List.setIfInBounds_toArray, List.set_cons_zero, List.set_cons_succ, e110, e112] at hK ⊢
        have wr_ : IntKind.i64.wrap (x1 - cp) = x1 - cp := IntWalk.i64_in _ (by omega)
        go_simp
        try rw [wr_]
        exact hK.out _ _ hw (World.grownBy.refl _ _) (rfl)
      refine Inv.Steps.go (by decide) (by rfl) (fun σ wx hw hd K hK => ?_) ?_
      · obtain ⟨y1, e87, y1a, y1b⟩ : ∃ y : Int, (σ 87) = .int .i64 y ∧ -1000 ≤ y ∧ y < 5000 := hd 2 (some 87) (by kernel_rfl) (by rfl)
        obtain e89 : (σ 89) = .int .i64 (tt - 1) := hd 4 (some 89) (by kernel_rfl) (by rfl)
        obtain e91 : (σ 91) = .int .i64 (tt + 1) := hd 6 (some 91) (by kernel_rfl) (by rfl)
        obtain ⟨y2, e95, y2a, y2b⟩ : ∃ y : Int, (σ 95) = .int .i64 y ∧ -4398046512000 ≤ y ∧ y ≤ 4398046512000 := hd 10 (some 95) (by kernel_rfl) (by rfl)
        obtain ⟨y3, e99, y3a, y3b⟩ : ∃ y : Int, (σ 99) = .int .i64 y ∧ -4398046512000 ≤ y ∧ y ≤ 4398046512000 := hd 14 (some 99) (by kernel_rfl) (by rfl)
        obtain e106 : (σ 106) = .int .i64 (x2 + cp) := hd 21 (some 106) (by kernel_rfl) (by rfl)
        obtain e113 : (σ 113) = .int .i64 (x1 - cp) := hd 28 (some 113) (by kernel_rfl) (by rfl)
        simp only [List.getElem_toArray, List.getElem_cons_zero, List.getElem_cons_succ, Act.put, List.setIfInBounds_toArray, List.set_cons_zero, List.set_cons_succ, e87, e89, e91, e95, e99, e106, e113] at hK ⊢
        have hlt := hw.di.lt
        go_simp
        exact hK.out _ _ (hw.below (new_block _)) (Src.Left.far ((Src.Left.refl hw.di).below (new_block _))) (⟨_, _, _, _, rfl, by omega, heap_alloc_new _ _, ⟨y1a, y1b⟩, ⟨y2a, y2b⟩, ⟨y3a, y3b⟩⟩)
      refine Inv.Steps.go (by decide) (by rfl) (fun σ wx hw hd K hK => ?_) ?_
      · obtain ⟨hh, y1, y2, y3, e114, NH, Hh, yb1, yb2, yb3⟩ : ∃ (hh : Nat) (y1 y2 y3 : Int), (σ 114) = .slice (some ⟨hh, 0, none⟩) 7 7 ∧ hh ≠ g ∧ wx.heap[hh]? = some (.cells #[.int .i64 y1, .int .i64 (tt - 1), .int .i64 (tt + 1), .int .i64 y2, .int .i64 y3, .int .i64 (x2 + cp), .int .i64 (x1 - cp)] 3 (0, 0)) ∧ (-1000 ≤ y1 ∧ y1 < 5000) ∧ (-4398046512000 ≤ y2 ∧ y2 ≤ 4398046512000) ∧ (-4398046512000 ≤ y3 ∧ y3 ≤ 4398046512000) := hd 29 (some 114) (by kernel_rfl) (by rfl)
        simp only [List.getElem_toArray, List.getElem_cons_zero, List.getElem_cons_succ, Act.put, List.setIfInBounds_toArray, List.set_cons_zero, List.set_cons_succ, e114] at hK ⊢
        go_simp
        exact hK.out _ _ hw (World.grownBy.refl _ _) (rfl)
      refine Inv.Steps.go (by decide) (by rfl) (fun σ wx hw hd K hK => ?_) ?_
      · simp only [List.getElem_toArray, List.getElem_cons_zero, List.getElem_cons_succ, Act.put, List.setIfInBounds_toArray, List.set_cons_zero, List.set_cons_succ] at hK ⊢
        go_simp
        exact hK.out _ _ hw (World.grownBy.refl _ _) (rfl)
      exact Inv.Steps.nil
    · intro σ wx hw hd
      obtain ⟨hh, y1, y2, y3, e114, NH, Hh, yb1, yb2, yb3⟩ : ∃ (hh : Nat) (y1 y2 y3 : Int), (σ 114) = .slice (some ⟨hh, 0, none⟩) 7 7 ∧ hh ≠ g ∧ wx.heap[hh]? = some (.cells #[.int .i64 y1, .int .i64 (tt - 1), .int .i64 (tt + 1), .int .i64 y2, .int .i64 y3, .int .i64 (x2 + cp), .int .i64 (x1 - cp)] 3 (0, 0)) ∧ (-1000 ≤ y1 ∧ y1 < 5000) ∧ (-4398046512000 ≤ y2 ∧ y2 ≤ 4398046512000) ∧ (-4398046512000 ≤ y3 ∧ y3 ≤ 4398046512000) := hd 29 (some 114) (by rfl) (by rfl)
      obtain e115 : (σ 115) = .int .i64 7 := hd 30 (some 115) (by rfl) (by rfl)
      obtain e116 : (σ 116) = .int .i64 0 := hd 31 (some 116) (by rfl) (by rfl)
      simp only [e114, e115, e116]
      refine Inv.done (by kernel_rfl) (NoPanic.normal ?_)
      have BW := Lib.hid hw.di.bel
      replace K4 := Lib.hid (hw.blk K4.out N4)
      replace PRd := Lib.hid (PRd.out.kept (hw.far.block gp PRd.out.1 (by simp; omega)) hw.far.size)
      replace ZRd := Lib.hid (ZRd.out.kept (hw.far.block gz ZRd.out.1 (by simp; omega)) hw.far.size)
      obtain ⟨wF, hwF⟩ : ∃ z, z = wx := ⟨_, rfl⟩
      rw [← hwF] at K4 PRd ZRd BW Hh ⊢
      have HH := Lib.hid Hh
      clear hd hw hwF Hh X1 X2 L2 e114 e115 e116
      go_wp2_with fail
      go_loopw [116] (fun i wr => ∃ j : Nat, j ≤ 7 ∧ i = .int .i64 j ∧ Hid (Below wF.heap.size wF wr)) (fun i _ => (7 - intOf i).toNat)
      case atStart => exact ⟨0, by omega, rfl, Lib.hid (Below.refl _ _)⟩
      case round =>
        obtain ⟨j, hj, rfl, hbr⟩ := hrel
        by_cases hj7 : j < 7
        · obtain ⟨oo, co, ob0, ob1⟩ : ∃ t : Int, wr.cell? ⟨hh, j, none⟩ = some (.int .i64 t) ∧ -1125899906842624 ≤ t ∧ t ≤ 1125899906842624 := by
            have PW := Mis.hb hbr.out HH.out
            rcases (show j = 0 ∨ j = 1 ∨ j = 2 ∨ j = 3 ∨ j = 4 ∨ j = 5 ∨ j = 6 by omega) with rfl | rfl | rfl | rfl | rfl | rfl | rfl
            · exact ⟨_, cell_of_row wr hh 0 _ _ _ PW, by omega, by omega⟩
            · exact ⟨_, cell_of_row wr hh 1 _ _ _ PW, by omega, by omega⟩
            · exact ⟨_, cell_of_row wr hh 2 _ _ _ PW, by omega, by omega⟩
            · exact ⟨_, cell_of_row wr hh 3 _ _ _ PW, by omega, by omega⟩
            · exact ⟨_, cell_of_row wr hh 4 _ _ _ PW, by omega, by omega⟩
            · exact ⟨_, cell_of_row wr hh 5 _ _ _ PW, by omega, by omega⟩
            · exact ⟨_, cell_of_row wr hh 6 _ _ _ PW, by omega, by omega⟩
          rename_i mci0 mci1 mci2 mci3 mci4 mci5
          revert a0 len0 cap0 z0 at_ w AW mai0 wA m g hgl w2 a1 a2 a3 d1 d2 d3 s b1 b2 n c1 c2 lo hi gp cpp L cp nl cp0 cp9 Hn n1' n9' hcp' w3 b4 N4 Np Z CS ZB ZL w5 gz cz hcz hczm Nz CA CB tt mm tb0 tb1 LE IS mb w6 w7 w8 mbi0 mci0 u14 u63 u64 u65 u66 u67 u68 u69 u70 u71 u72 u73 u74 u75 u76 u77 u78 u79 u80 u81 u82 u83 u84 x1 x2 xb1 xb2 xb3 xb4 z0' z1' hzz wq mci1 mci2 mci3 mci4 mci5 σ wx hh y1 y2 y3 NH yb1 yb2 yb3 wF BW ZRd PRd K4 HH wr u4 u16 u17 u18 u117 u118 u119 u120 u121 u122 u123 u124 u125 u126 u127 u128 u129 u130 u131 u132 u133 u134 u135 u136 u137 u138 u139 u140 u141 u142 u143 u144 u145 u146 u147 u148 u149 u150 u151 u152 u153 u154 j hj hbr hj7 oo co ob0 ob1
          exact hck_mc.out
        · obtain rfl : j = 7 := by omega
          have BZ := Lib.hid (Buf.then_ BW.out hbr.out)
          go_wp2_with fail
          with_reducible refine (AW.out _).mono ?_
          rintro e1 w9 ⟨rfl, hb9⟩
          go_wp2_with fail
          go_ret
          exact ⟨rfl, Buf.then_ BZ.out hb9⟩
set_option maxHeartbeats 16000000 in
set_option maxRecDepth 100000 in
theorem ck_mc : ck_mb.1 := by
  intro a0 len0 cap0 z0 at_ w AW mai0 wA m g hgl w2 a1
    a2 a3 d1 d2 d3 s b1 b2 n c1 c2 lo hi gp
    cpp L cp nl cp0 cp9 Hn n1' n9' hcp' w3 b4 N4 Np
    Z CS ZB ZL w5 gz cz hcz hczm Nz CA CB tt mm
    tb0 tb1 LE IS mb w6 w7 w8 mbi0 mci0 u14 u63 u64 u65
    u66 u67 u68 u69 u70 u71 u72 u73 u74 u75 u76 u77 u78 u79
    u80 u81 u82 u83 u84 x1 x2 xb1 xb2 xb3 xb4 z0' z1' hzz
    wq mci1 mci2 mci3 mci4 mci5 σ wx hh y1 y2 y3 NH yb1
    yb2 yb3 wF BW ZRd PRd K4 HH wr u4 u16 u17 u18 u117
    u118 u119 u120 u121 u122 u123 u124 u125 u126 u127 u128 u129 u130 u131
    u132 u133 u134 u135 u136 u137 u138 u139 u140 u141 u142 u143 u144 u145
    u146 u147 u148 u149 u150 u151 u152 u153 u154 j hj hbr hj7 oo
    co ob0 ob1

  have hj7' : (j : Int) < 7 := by omega
  have C1 := Lib.hid (CA.out oo ob0 ob1)
  have C2 := Lib.hid (CB.out oo ob0 ob1)
  have le_ := LE.out oo
  have mb2 := ck_bd cp (wt L) (zn Z) oo (by omega) (by omega) nl (by rw [Hn.out]; exact CS.out.wts)
  generalize ck cp (wt L) (zn Z) oo nl = cc at *
  have dd : (cc != cc) = false := by simp
  obtain ⟨a0_, a1_, a2_, a3_, a4_, a5_, a6_, a7_, a8_, a9_, a10_⟩ := c11 (Mis.hb hbr.out K4.out)
  go_wp2_with fail
  with_reducible refine (C1.out _ (PRd.out.below hbr.out) (ZRd.out.below hbr.out)).mono ?_
  rintro e1 w9 ⟨rfl, hb9⟩
  replace hbr := Lib.hid (Buf.then_ hbr.out hb9)
  clear hb9 a0_ a1_ a2_ a3_ a4_ a5_ a6_ a7_ a8_ a9_ a10_ co
  obtain ⟨a0_, a1_, a2_, a3_, a4_, a5_, a6_, a7_, a8_, a9_, a10_⟩ := c11 (Mis.hb hbr.out K4.out)
  go_wp2_with fail
  with_reducible refine (C2.out _ (PRd.out.below hbr.out) (ZRd.out.below hbr.out)).mono ?_
  rintro e1 w10 ⟨rfl, hb9⟩
  replace hbr := Lib.hid (Buf.then_ hbr.out hb9)
  clear hb9 a0_ a1_ a2_ a3_ a4_ a5_ a6_ a7_ a8_ a9_ a10_ C1 C2
  obtain ⟨wG, hwG⟩ : ∃ z, z = w10 := ⟨_, rfl⟩
  rw [← hwG] at hbr ⊢
  clear hwG
  go_wp2_with fail
  go_loopw [137] (fun i wr => ∃ k : Nat, k ≤ nl ∧ i = .int .i64 k ∧ Hid (Below wG.heap.size wG wr)) (fun i _ => ((nl : Int) - intOf i).toNat)
  case atStart => exact ⟨0, Nat.zero_le _, rfl, Lib.hid (Below.refl _ _)⟩
  case round =>
    obtain ⟨k, hk, rfl, hb3⟩ := hrel
    by_cases hlt : k < nl
    · have hlt' : (k : Int) < nl := by omega
      have hlt2 : (k : Int) < cz := by omega
      obtain ⟨⟨z1, z2⟩, hzz2⟩ : ∃ q, Z[k]? = some q := ⟨Z[k]'(by rw [ZL.out]; exact hlt), List.getElem?_eq_getElem _⟩
      obtain ⟨y1_, y2_, y3_, y4_⟩ := (zn_at hzz2) ▸ ZB.out k hlt
      dsimp only at y1_ y2_ y3_ y4_
      have R1 := Lib.hid fun w' => res_any z1 z2 oo (by omega) (by omega) (by omega) (by omega) (by omega) (by omega) w'
      have R2 := Lib.hid fun w' => rres_any (z1, z2) oo (by dsimp only; omega) (by dsimp only; omega) (by dsimp only; omega) (by dsimp only; omega) (by omega) (by omega) w'
      dsimp only at R2
      generalize res (z1, z2) oo = rr at *
      have dr : (rr != rr) = false := by simp
      obtain ⟨wy, hwy⟩ : ∃ z, z = wr := ⟨_, rfl⟩
      rw [← hwy] at hb3 ⊢
      clear hwy
      have E3 := Lib.hid fun w' (h' : Below wy.heap.size wy w') => (ZRd.out.below (Buf.then_ hbr.out (Buf.then_ hb3.out h'))).2 k _ hzz2
      dsimp only at E3
      replace hzz2 := Lib.hid hzz2
      go_upto_region 25 with fail
      refine Buf.region_calm wy (by kernel_rfl) (by kernel_rfl) (Below.refl _ _) ?_
      repeat (go_big_quiet_step ((intro hC; first
        | (go_at_call 23; with_reducible exact Buf.calm hC (R1.out _))
        | (go_at_call 24; with_reducible exact Buf.calm hC (R2.out _))
        | rfl
        | (obtain ⟨g0, g1⟩ := E3.out _ hC; simp only [g0, g1, Result.andThen_ok]; exact ⟨trivial, rfl⟩))))
      refine wpQuiet_nil ?_
      intro w6 hb6
      have B6 := Lib.hid (Buf.then_ hb3.out hb6)
      clear hb6 hb3 R1 R2 E3
      go_wp2_with fail
      go_roundw
      case rel => exact ⟨k + 1, by omega, by go_num, B6⟩
      case measure => simp [intOf]; omega
    · obtain rfl : nl = k := by omega
      have B7 := Lib.hid (Buf.then_ hbr.out hb3.out)
      go_wp2_with fail
      go_roundw
      case rel => exact ⟨j + 1, by omega, by go_num, B7⟩
      case measure => simp [intOf]; omega
theorem misfitBest_walk (a0 : Option Addr) (len0 cap0 : Nat) (z0 : List Int) (at_ : Int) (w : World) (w0 : Buf.IsRow .i64 w a0 len0 cap0 z0) :
    Calls Try.prog 3 #[.slice a0 len0 cap0, .int .i64 at_] w fun e w' => e = .returned (.bool true) ∧ Below w.heap.size w w' :=
  (ck_root.2 ⟨(ck_ma.2 ⟨(ck_mb.2 ⟨ck_mc⟩)⟩)⟩) a0 len0 cap0 z0 at_ w w0
end Laws
end Go.Proofs.Ytmmikihkfpkapaa
