/- The walk of SourceOrder. -/
import Derived.Test.YtppbejebmlcloaaDoorSrcW
set_option linter.unusedVariables false
set_option linter.unusedSimpArgs false
namespace Go.Proofs.YtppbejebmlcloaaDoor
open Go.RowKit Dice
namespace Sc
theorem count3 {A B C : Q4} {M : List Q4} (hst : M.Pairwise (fun p q => cf p q < 0)) (hm : ∀ x, x ∈ M ↔ x ∈ [C, A, B, A]) : M.length = 3 ↔ A ≠ B ∧ B ≠ C ∧ A ≠ C := by
  have nd : M.Nodup := hst.imp fun {p q} h e => by
    subst e
    have := (cf_to.zero p p).2 rfl
    omega
  have key : ∀ K : List Q4, K.Nodup → (∀ x, x ∈ K ↔ x ∈ [C, A, B, A]) → M.length = K.length := fun K hK hx =>
    ((List.perm_ext_iff_of_nodup nd hK).2 fun x => (hm x).trans (hx x).symm).length_eq
  by_cases h1 : A = B
  · subst h1
    simp only [ne_eq, not_true_eq_false, false_and, iff_false]
    by_cases h2 : A = C
    · subst h2
      have := key [A] (by simp) (by intro x; simp)
      rw [this]; simp
    · have := key [C, A] (by simp; exact fun e => h2 e.symm) (by intro x; simp; try grind)
      rw [this]; simp
  · by_cases h2 : B = C
    · subst h2
      have := key [B, A] (by simp; exact fun e => h1 e.symm) (by intro x; simp; grind)
      rw [this]; simp
    · by_cases h3 : A = C
      · subst h3
        have := key [A, B] (by simp; exact h1) (by intro x; simp; try grind)
        rw [this]; simp
      · have := key [C, A, B] (by simp; exact ⟨⟨fun e => h3 e.symm, fun e => h2 e.symm⟩, h1⟩) (by intro x; simp; try grind)
        rw [this]; simp [h1, h2, h3]
end Sc
namespace Laws
open Sc
set_option maxHeartbeats 8000000 in
set_option maxRecDepth 100000 in
theorem sourceOrder_walk (a0 : Option Addr) (len0 cap0 : Nat) (z0 : List Int) (w : World) (hm : Mx w) (w0 : Buf.IsRow .i64 w a0 len0 cap0 z0) :
    Calls Tryd.prog 4 #[.slice a0 len0 cap0] w fun e w' => e = .returned (.bool true) ∧ Below w.heap.size w w' := by
  have Sn := Lib.hid Sc.sane_any
  replace hm := Lib.hid hm
  by_cases hs : len0 ≤ 500
  · have hd : decide ((len0 : Int) ≤ 500) = true := by simp; omega
    go_enter Tryd.func4, Tryd.ntmps4
    go_wp2_with (first | (go_at_call 6; refine (light_any _ _ _ _).mono ?_; rintro e w1 ⟨rfl, hw⟩; replace hw := hw.symm; subst hw; rw [hd]) | (go_at_call 8; refine (roll_any a0 len0 cap0 z0 _ w0 hs).mono ?_; rintro e w2 ⟨rfl, hdi⟩))
    refine (source4 hdi).mono ?_
    rintro e w3 ⟨⟨s0, s1, s2, s3, rfl, hs4⟩, hl⟩
    have L0 := Lib.hid hl
    clear hl hs4
    go_wp2_with fail
    refine (source4 L0.out.di).mono ?_
    rintro e w4 ⟨⟨t0, t1, t2, t3, rfl, ht4⟩, hl⟩
    replace L0 := Lib.hid (L0.out.trans hl)
    clear hl ht4
    go_wp2_with fail
    refine (source4 L0.out.di).mono ?_
    rintro e w5 ⟨⟨m0, m1, m2, m3, rfl, hu4⟩, hl⟩
    have B5 := Lib.hid hl.di.bel
    clear hl hu4 L0 hdi
    go_upto_region 5 with fail
    obtain ⟨w6, hw6⟩ : ∃ w6, w6 = ((w5.alloc (.cells #[.string ⟨⟨s0⟩⟩, .string ⟨⟨s1⟩⟩, .string ⟨⟨s2⟩⟩, .string ⟨⟨s3⟩⟩] 28)).alloc (.cells #[.string ⟨⟨t0⟩⟩, .string ⟨⟨t1⟩⟩, .string ⟨⟨t2⟩⟩, .string ⟨⟨t3⟩⟩] 28)).alloc (.cells #[.string ⟨⟨m0⟩⟩, .string ⟨⟨m1⟩⟩, .string ⟨⟨m2⟩⟩, .string ⟨⟨m3⟩⟩] 28) := ⟨_, rfl⟩
    have A6 := Lib.hid (show w6.heap[w5.heap.size]? = some (.cells #[.string ⟨⟨s0⟩⟩, .string ⟨⟨s1⟩⟩, .string ⟨⟨s2⟩⟩, .string ⟨⟨s3⟩⟩] 28 (0, 0)) by
      rw [hw6]; exact (heap_alloc_old _ _ (by simp only [World.size_alloc]; omega)).trans ((heap_alloc_old _ _ (by simp only [World.size_alloc]; omega)).trans (heap_alloc_new w5 _)))
    have T6 := Lib.hid (show w6.heap[w5.heap.size + 1]? = some (.cells #[.string ⟨⟨t0⟩⟩, .string ⟨⟨t1⟩⟩, .string ⟨⟨t2⟩⟩, .string ⟨⟨t3⟩⟩] 28 (0, 0)) by
      rw [hw6]
      refine (heap_alloc_old _ _ (by simp only [World.size_alloc]; omega)).trans ?_
      have h := heap_alloc_new (w5.alloc (.cells #[.string ⟨⟨s0⟩⟩, .string ⟨⟨s1⟩⟩, .string ⟨⟨s2⟩⟩, .string ⟨⟨s3⟩⟩] 28)) (.cells #[.string ⟨⟨t0⟩⟩, .string ⟨⟨t1⟩⟩, .string ⟨⟨t2⟩⟩, .string ⟨⟨t3⟩⟩] 28)
      rw [World.size_alloc] at h; exact h)
    have U6 := Lib.hid (show w6.heap[w5.heap.size + 1 + 1]? = some (.cells #[.string ⟨⟨m0⟩⟩, .string ⟨⟨m1⟩⟩, .string ⟨⟨m2⟩⟩, .string ⟨⟨m3⟩⟩] 28 (0, 0)) by
      rw [hw6]
      have h := heap_alloc_new ((w5.alloc (.cells #[.string ⟨⟨s0⟩⟩, .string ⟨⟨s1⟩⟩, .string ⟨⟨s2⟩⟩, .string ⟨⟨s3⟩⟩] 28)).alloc (.cells #[.string ⟨⟨t0⟩⟩, .string ⟨⟨t1⟩⟩, .string ⟨⟨t2⟩⟩, .string ⟨⟨t3⟩⟩] 28)) (.cells #[.string ⟨⟨m0⟩⟩, .string ⟨⟨m1⟩⟩, .string ⟨⟨m2⟩⟩, .string ⟨⟨m3⟩⟩] 28)
      rw [World.size_alloc, World.size_alloc] at h; exact h)
    have W6 := Lib.hid (show Below w5.heap.size w5 w6 by rw [hw6]; exact ((new_block _).alloc (by simp) _).alloc (by simp only [World.size_alloc]; omega) _)
    have BW := Lib.hid (Buf.then_ B5.out W6.out)
    rw [← hw6]
    clear hw6
    generalize w5.heap.size + 1 + 1 = b6 at *
    generalize w5.heap.size + 1 = b5 at *
    generalize w5.heap.size = b4 at *
    clear B5 W6
    -- the numbers that Compare gives
    obtain ⟨x, hx⟩ : ∃ x, x = cf (s0, s1, s2, s3) (t0, t1, t2, t3) := ⟨_, rfl⟩
    obtain ⟨y, hy⟩ : ∃ y, y = cf (t0, t1, t2, t3) (m0, m1, m2, m3) := ⟨_, rfl⟩
    obtain ⟨z, hz⟩ : ∃ z, z = cf (s0, s1, s2, s3) (m0, m1, m2, m3) := ⟨_, rfl⟩
    have CX := Lib.hid fun w' => (compare_gr s0 s1 s2 s3 t0 t1 t2 t3 x hx w').mono fun e w'' (h : _ ∧ _) => (⟨h.1, h.2.below⟩ : e = _ ∧ Below w'.heap.size w' w'')
    have CY := Lib.hid fun w' => (compare_gr t0 t1 t2 t3 m0 m1 m2 m3 y hy w').mono fun e w'' (h : _ ∧ _) => (⟨h.1, h.2.below⟩ : e = _ ∧ Below w'.heap.size w' w'')
    have CZ := Lib.hid fun w' => (compare_gr s0 s1 s2 s3 m0 m1 m2 m3 z hz w').mono fun e w'' (h : _ ∧ _) => (⟨h.1, h.2.below⟩ : e = _ ∧ Below w'.heap.size w' w'')
    have CBA := Lib.hid fun w' => (compare_gr t0 t1 t2 t3 s0 s1 s2 s3 (-x) (by rw [hx, ← cf_to.anti]) w').mono fun e w'' (h : _ ∧ _) => (⟨h.1, h.2.below⟩ : e = _ ∧ Below w'.heap.size w' w'')
    have x3 := cf_small (s0, s1, s2, s3) (t0, t1, t2, t3)
    have y3 := cf_small (t0, t1, t2, t3) (m0, m1, m2, m3)
    have z3 := cf_small (s0, s1, s2, s3) (m0, m1, m2, m3)
    have tr := cf_to.trans (s0, s1, s2, s3) (t0, t1, t2, t3) (m0, m1, m2, m3)
    have xz := cf_to.zero (s0, s1, s2, s3) (t0, t1, t2, t3)
    rw [← hx] at x3 tr xz
    rw [← hy] at y3 tr
    rw [← hz] at z3 tr
    replace hx := Lib.hid hx
    replace hy := Lib.hid hy
    replace hz := Lib.hid hz
    have EA := Lib.hid fun w' (h' : Below w6.heap.size w6 w') => Rec.c4 (hb h' A6.out)
    have ET := Lib.hid fun w' (h' : Below w6.heap.size w6 w') => Rec.c4 (hb h' T6.out)
    have EU := Lib.hid fun w' (h' : Below w6.heap.size w6 w') => Rec.c4 (hb h' U6.out)
    refine Buf.region_calm w6 (by kernel_rfl) (by kernel_rfl) (Below.refl _ _) ?_
    repeat (go_big_quiet_step ((intro hC; first
      | (go_at_call 13; with_reducible exact Buf.calm hC (CX.out _))
      | (go_at_call 13; with_reducible exact Buf.calm hC (CY.out _))
      | (go_at_call 13; with_reducible exact Buf.calm hC (CZ.out _))
      | rfl
      | (simp only [(EA.out _ hC).1, (EA.out _ hC).2.1, (EA.out _ hC).2.2.1, (EA.out _ hC).2.2.2, Result.andThen_ok]; exact ⟨trivial, rfl⟩)
      | (simp only [(ET.out _ hC).1, (ET.out _ hC).2.1, (ET.out _ hC).2.2.1, (ET.out _ hC).2.2.2, Result.andThen_ok]; exact ⟨trivial, rfl⟩)
      | (simp only [(EU.out _ hC).1, (EU.out _ hC).2.1, (EU.out _ hC).2.2.1, (EU.out _ hC).2.2.2, Result.andThen_ok]; exact ⟨trivial, rfl⟩))))
    refine wpQuiet_nil ?_
    intro w7 b7
    have A7 := Lib.hid (hb b7 A6.out)
    have T7 := Lib.hid (hb b7 T6.out)
    have U7 := Lib.hid (hb b7 U6.out)
    replace BW := Lib.hid (Buf.then_ BW.out b7)
    clear b7 EA ET EU A6 T6 U6
    go_upto_region 6 with fail
    have AT := eqQ s0 s1 s2 s3 t0 t1 t2 t3
    go_cut [61] (fun s61 wx => ∃ wy : World, wy = wx ∧ s61 = .bool false ∧ Hid (Below w7.heap.size w7 wy))
    case first =>
      obtain ⟨pa0, pa1, pa2, pa3⟩ := Rec.c4 A7.out
      obtain ⟨pt0, pt1, pt2, pt3⟩ := Rec.c4 T7.out
      rcases x3 with rfl | rfl | rfl
      · have e1 : -(-1 : Int) = 1 := rfl
        rw [e1] at CBA
        have hne : ¬ ((s0, s1, s2, s3) = (t0, t1, t2, t3)) := fun h => by have := xz.2 h; omega
        rw [decide_eq_false hne] at AT
        clear xz hne e1
        by_cases hy0 : y ≤ 0
        · have hz0 := tr (by omega) hy0
          have d1 : decide (y ≤ 0) = true := decide_eq_true hy0
          have d2 : decide (0 < z) = false := decide_eq_false (by omega)
          clear tr y3 z3 hz0
          go_wp2_with (go_at_call 13; refine (CBA.out _).mono ?_; rintro e w8 ⟨rfl, b8⟩; have h8 := Rec.c4 (hb b8 A7.out); have t8 := Rec.c4 (hb b8 T7.out); obtain ⟨q0, q1, q2, q3⟩ := h8; obtain ⟨r0, r1, r2, r3⟩ := t8; replace b8 := Lib.hid b8)
          all_goals go_meet
          all_goals exact ⟨_, rfl, rfl, b8⟩
        · have d1 : decide (y ≤ 0) = false := decide_eq_false hy0
          clear tr y3 z3
          go_wp2_with (go_at_call 13; refine (CBA.out _).mono ?_; rintro e w8 ⟨rfl, b8⟩; have h8 := Rec.c4 (hb b8 A7.out); have t8 := Rec.c4 (hb b8 T7.out); obtain ⟨q0, q1, q2, q3⟩ := h8; obtain ⟨r0, r1, r2, r3⟩ := t8; replace b8 := Lib.hid b8)
          all_goals go_meet
          all_goals exact ⟨_, rfl, rfl, b8⟩
      · have he : (s0, s1, s2, s3) = (t0, t1, t2, t3) := xz.1 rfl
        rw [decide_eq_true he] at AT
        clear xz he
        by_cases hy0 : y ≤ 0
        · have hz0 := tr (by omega) hy0
          have d1 : decide (y ≤ 0) = true := decide_eq_true hy0
          have d2 : decide (0 < z) = false := decide_eq_false (by omega)
          clear tr y3 z3 hz0
          go_wp2_with (go_at_call 13; refine (CBA.out _).mono ?_; rintro e w8 ⟨rfl, b8⟩; have h8 := Rec.c4 (hb b8 A7.out); have t8 := Rec.c4 (hb b8 T7.out); obtain ⟨q0, q1, q2, q3⟩ := h8; obtain ⟨r0, r1, r2, r3⟩ := t8; replace b8 := Lib.hid b8)
          all_goals go_meet
          all_goals exact ⟨_, rfl, rfl, b8⟩
        · have d1 : decide (y ≤ 0) = false := decide_eq_false hy0
          clear tr y3 z3
          go_wp2_with (go_at_call 13; refine (CBA.out _).mono ?_; rintro e w8 ⟨rfl, b8⟩; have h8 := Rec.c4 (hb b8 A7.out); have t8 := Rec.c4 (hb b8 T7.out); obtain ⟨q0, q1, q2, q3⟩ := h8; obtain ⟨r0, r1, r2, r3⟩ := t8; replace b8 := Lib.hid b8)
          all_goals go_meet
          all_goals exact ⟨_, rfl, rfl, b8⟩
      · have hne : ¬ ((s0, s1, s2, s3) = (t0, t1, t2, t3)) := fun h => by have := xz.2 h; omega
        rw [decide_eq_false hne] at AT
        clear xz hne tr y3 z3
        go_wp2_with (go_at_call 13; refine (CBA.out _).mono ?_; rintro e w8 ⟨rfl, b8⟩; have h8 := Rec.c4 (hb b8 A7.out); have t8 := Rec.c4 (hb b8 T7.out); obtain ⟨q0, q1, q2, q3⟩ := h8; obtain ⟨r0, r1, r2, r3⟩ := t8; replace b8 := Lib.hid b8)
        all_goals go_meet
        all_goals exact ⟨_, rfl, rfl, b8⟩
    case rest =>
      obtain ⟨wc, hwc, rfl, b8⟩ := hcut
      subst hwc
      rename_i hKK
      refine hKK _ _ ?_
      go_upto_region 8 with fail
      replace A7 := Lib.hid (hb b8.out A7.out)
      replace T7 := Lib.hid (hb b8.out T7.out)
      replace U7 := Lib.hid (hb b8.out U7.out)
      replace BW := Lib.hid (Buf.then_ BW.out b8.out)
      clear b8 CBA AT
      obtain ⟨pa0, pa1, pa2, pa3⟩ := Rec.c4 A7.out
      obtain ⟨pt0, pt1, pt2, pt3⟩ := Rec.c4 T7.out
      obtain ⟨pu0, pu1, pu2, pu3⟩ := Rec.c4 U7.out
      have KS := Lib.hid (show (wc.alloc (.cells #[.string ⟨⟨m0⟩⟩, .string ⟨⟨m1⟩⟩, .string ⟨⟨m2⟩⟩, .string ⟨⟨m3⟩⟩, .string ⟨⟨s0⟩⟩, .string ⟨⟨s1⟩⟩, .string ⟨⟨s2⟩⟩, .string ⟨⟨s3⟩⟩, .string ⟨⟨t0⟩⟩, .string ⟨⟨t1⟩⟩, .string ⟨⟨t2⟩⟩, .string ⟨⟨t3⟩⟩, .string ⟨⟨s0⟩⟩, .string ⟨⟨s1⟩⟩, .string ⟨⟨s2⟩⟩, .string ⟨⟨s3⟩⟩] 28)).heap[wc.heap.size]? = some (.cells (cQ [(m0, m1, m2, m3), (s0, s1, s2, s3), (t0, t1, t2, t3), (s0, s1, s2, s3)]).toArray 28 (0, 0)) from heap_alloc_new wc _)
      have SO := Lib.hid (sortQ_any (n := 4) rfl KS.out (by omega) (by omega))
      have NB := Lib.hid (show Below wc.heap.size wc (wc.alloc (.cells #[.string ⟨⟨m0⟩⟩, .string ⟨⟨m1⟩⟩, .string ⟨⟨m2⟩⟩, .string ⟨⟨m3⟩⟩, .string ⟨⟨s0⟩⟩, .string ⟨⟨s1⟩⟩, .string ⟨⟨s2⟩⟩, .string ⟨⟨s3⟩⟩, .string ⟨⟨t0⟩⟩, .string ⟨⟨t1⟩⟩, .string ⟨⟨t2⟩⟩, .string ⟨⟨t3⟩⟩, .string ⟨⟨s0⟩⟩, .string ⟨⟨s1⟩⟩, .string ⟨⟨s2⟩⟩, .string ⟨⟨s3⟩⟩] 28)) from new_block _)
      clear KS
      go_wp2_with (go_at_call 14; refine SO.out.mono ?_; rintro e w9 ⟨⟨v, M, g, c, n, rfl, HS⟩, b9⟩; obtain rfl := HS.val)
      have b9' : Below wc.heap.size wc w9 := Buf.then_ NB.out b9
      replace A7 := Lib.hid (hb b9' A7.out)
      replace T7 := Lib.hid (hb b9' T7.out)
      replace U7 := Lib.hid (hb b9' U7.out)
      replace BW := Lib.hid (Buf.then_ BW.out b9')
      have hn1 := HS.ge
      have hn4 : n ≤ 4 := HS.le
      have hnc := HS.nc
      replace HS := Lib.hid HS
      clear b9 b9' NB SO pa0 pa1 pa2 pa3 pt0 pt1 pt2 pt3 pu0 pu1 pu2 pu3 CX CY CZ hx hy hz x3 y3 z3 tr xz
      have ST := Lib.hid fun (i j : Nat) (p q : Q4) (hij : i < j) (hp : M[i]? = some p) (hq : M[j]? = some q) => (by
        obtain ⟨hi, rfl⟩ := List.getElem?_eq_some_iff.1 hp
        obtain ⟨hj, rfl⟩ := List.getElem?_eq_some_iff.1 hq
        exact (List.pairwise_iff_getElem.1 HS.out.strict) i j hi hj hij : cf p q < 0)
      have hln := Lib.hid HS.out.len
      have hcm := HS.out.cm
      unfold maxLen at hcm
      go_loopw [11] (fun i wr => ∃ k : Nat, i = .int .i64 (k : Int) ∧ 1 ≤ k ∧ k ≤ n ∧ Hid (Below w9.heap.size w9 wr)) (fun i _ => n - (intOf i).toNat)
      case atStart => exact ⟨1, rfl, by omega, by omega, Lib.hid (Below.refl _ _)⟩
      case round =>
        obtain ⟨k, rfl, hk1, hkn, BR⟩ := hrel
        by_cases hlt : k < n
        · obtain ⟨j, hj⟩ : ∃ j, k = j + 1 := ⟨k - 1, by omega⟩
          have hltI : (k : Int) < n := by omega
          obtain ⟨⟨p0, p1, p2, p3⟩, hp⟩ : ∃ p, M[k]? = some p := ⟨M[k]'(by rw [← hln.out]; omega), List.getElem?_eq_getElem _⟩
          obtain ⟨⟨q0, q1, q2, q3⟩, hq⟩ : ∃ p, M[j]? = some p := ⟨M[j]'(by rw [← hln.out]; omega), List.getElem?_eq_getElem _⟩
          have hjw : IntKind.i64.wrap ((k : Int) - 1) = (j : Int) := by rw [show (k : Int) - 1 = j by omega]; exact IntWalk.i64_in _ (by omega)
          have hjn : (j : Int) < n := by omega
          have hj0 : j < n := by omega
          obtain ⟨vv, hvv⟩ : ∃ vv, vv = cf (q0, q1, q2, q3) (p0, p1, p2, p3) := ⟨_, rfl⟩
          have hneg : vv < 0 := by rw [hvv]; exact ST.out j k _ _ (by omega) hq hp
          have dneg : decide (0 ≤ vv) = false := decide_eq_false (by omega)
          have CV := Lib.hid fun w' => (compare_gr q0 q1 q2 q3 p0 p1 p2 p3 vv hvv w').mono fun e w'' (h : _ ∧ _) => (⟨h.1, h.2.below⟩ : e = _ ∧ Below w'.heap.size w' w'')
          have EP := Lib.hid fun w' (h' : Below wr.heap.size wr w') => ((HS.out.below BR.out).below h').cells k _ hp
          have EQ := Lib.hid fun w' (h' : Below wr.heap.size wr w') => ((HS.out.below BR.out).below h').cells j _ hq
          dsimp only at EP EQ
          replace hj := Lib.hid hj
          replace hvv := Lib.hid hvv
          clear hp hq
          go_wp2_with fail
          refine Buf.region_calm wr (by kernel_rfl) (by kernel_rfl) (Below.refl _ _) ?_
          repeat (go_big_quiet_step ((intro hC; first
            | (go_at_call 13; with_reducible exact Buf.calm hC (CV.out _))
            | rfl
            | (simp only [(EP.out _ hC).1, (EP.out _ hC).2.1, (EP.out _ hC).2.2.1, (EP.out _ hC).2.2.2, Result.andThen_ok]; exact ⟨trivial, rfl⟩)
            | (simp only [(EQ.out _ hC).1, (EQ.out _ hC).2.1, (EQ.out _ hC).2.2.1, (EQ.out _ hC).2.2.2, Result.andThen_ok]; exact ⟨trivial, rfl⟩))))
          refine wpQuiet_nil ?_
          intro wx bx
          have BX := Lib.hid (Buf.then_ BR.out bx)
          clear bx CV EP EQ
          go_wp2_with fail
          go_roundw
          case rel => exact ⟨k + 1, by go_num, by omega, by omega, BX⟩
          case measure => simp [intOf]; omega
        · obtain rfl : n = k := by omega
          go_wp2_with fail
          have A7' := Lib.hid (hb BR.out A7.out)
          have T7' := Lib.hid (hb BR.out T7.out)
          have U7' := Lib.hid (hb BR.out U7.out)
          have HS' := Lib.hid (HS.out.below BR.out)
          have BW' := Lib.hid (Buf.then_ BW.out BR.out)
          clear A7 T7 U7 HS BW BR hlt hkn ST
          obtain ⟨w10, hw10⟩ : ∃ w10, w10 = wr := ⟨_, rfl⟩
          rw [← hw10]
          rw [← hw10] at A7' T7' U7' HS' BW'
          clear hw10
          go_loopw [87, 12] (fun i s wr => ∃ k : Nat, i = .int .i64 (k : Int) ∧ s = .int .i64 (k : Int) ∧ k ≤ n ∧ Hid (Below w10.heap.size w10 wr)) (fun i _ _ => n - (intOf i).toNat)
          case atStart => exact ⟨0, rfl, rfl, by omega, Lib.hid (Below.refl _ _)⟩
          case round =>
            obtain ⟨k, rfl, rfl, hkn, BR⟩ := hrel
            by_cases hlt : k < n
            · have hltI : (k : Int) < n := by omega
              obtain ⟨⟨q0, q1, q2, q3⟩, hq⟩ : ∃ p, M[k]? = some p := ⟨M[k]'(by rw [← hln.out]; omega), List.getElem?_eq_getElem _⟩
              have hmem := (HS'.out.mem _).1 (List.mem_of_getElem? hq)
              obtain ⟨x0, x1, x2, x3⟩ := (HS'.out.below BR.out).cells k _ hq
              dsimp only at x0 x1 x2 x3
              replace hq := Lib.hid hq
              replace hmem := Lib.hid hmem
              go_upto_region 18 with fail
              obtain ⟨wq, hwq⟩ : ∃ wq, wq = wr.alloc (.cells #[.string ⟨⟨q0⟩⟩, .string ⟨⟨q1⟩⟩, .string ⟨⟨q2⟩⟩, .string ⟨⟨q3⟩⟩] 28) := ⟨_, rfl⟩
              obtain ⟨bq, hbq⟩ : ∃ bq, bq = wr.heap.size := ⟨_, rfl⟩
              have Wq := Lib.hid (show Below wr.heap.size wr wq by rw [hwq]; exact new_block _)
              have Cq := Lib.hid (show wq.heap[bq]? = some (.cells #[.string ⟨⟨q0⟩⟩, .string ⟨⟨q1⟩⟩, .string ⟨⟨q2⟩⟩, .string ⟨⟨q3⟩⟩] 28 (0, 0)) by rw [hwq, hbq]; exact heap_alloc_new wr _)
              rw [← hwq, ← hbq]
              have BQ := Lib.hid (Buf.then_ BR.out Wq.out)
              replace hwq := Lib.hid hwq
              replace hbq := Lib.hid hbq
              clear x0 x1 x2 x3 Wq
              obtain ⟨y0, y1, y2, y3⟩ := Rec.c4 Cq.out
              obtain ⟨pa0, pa1, pa2, pa3⟩ := Rec.c4 (hb BQ.out A7'.out)
              obtain ⟨pt0, pt1, pt2, pt3⟩ := Rec.c4 (hb BQ.out T7'.out)
              obtain ⟨pu0, pu1, pu2, pu3⟩ := Rec.c4 (hb BQ.out U7'.out)
              have ES := eqQ q0 q1 q2 q3 s0 s1 s2 s3
              have ET := eqQ q0 q1 q2 q3 t0 t1 t2 t3
              have EU := eqQ q0 q1 q2 q3 m0 m1 m2 m3
              by_cases hs : (q0, q1, q2, q3) = (s0, s1, s2, s3)
              · rw [decide_eq_true hs] at ES
                clear hs ET EU
                go_wp2_with fail
                go_roundw
                case rel => exact ⟨k + 1, by go_num, by go_num, by omega, BQ⟩
                case measure => simp [intOf]; omega
              · by_cases ht : (q0, q1, q2, q3) = (t0, t1, t2, t3)
                · rw [decide_eq_false hs] at ES
                  rw [decide_eq_true ht] at ET
                  clear hs ht EU
                  go_wp2_with fail
                  go_roundw
                  case rel => exact ⟨k + 1, by go_num, by go_num, by omega, BQ⟩
                  case measure => simp [intOf]; omega
                · have hu : (q0, q1, q2, q3) = (m0, m1, m2, m3) := by
                    rcases List.mem_cons.1 hmem.out with h | h
                    · exact h
                    rcases List.mem_cons.1 h with h | h
                    · exact absurd h hs
                    rcases List.mem_cons.1 h with h | h
                    · exact absurd h ht
                    rcases List.mem_cons.1 h with h | h
                    · exact absurd h hs
                    · cases h
                  rw [decide_eq_false hs] at ES
                  rw [decide_eq_false ht] at ET
                  rw [decide_eq_true hu] at EU
                  clear hs ht hu
                  go_wp2_with fail
                  go_roundw
                  case rel => exact ⟨k + 1, by go_num, by go_num, by omega, BQ⟩
                  case measure => simp [intOf]; omega
            · obtain rfl : n = k := by omega
              have c3 := Lib.hid (count3 HS'.out.strict HS'.out.mem)
              go_upto_region 21 with fail
              have A8 := Lib.hid (hb BR.out A7'.out)
              have T8 := Lib.hid (hb BR.out T7'.out)
              have U8 := Lib.hid (hb BR.out U7'.out)
              have BX := Lib.hid (Buf.then_ BW'.out BR.out)
              clear A7' T7' U7' HS' BW' hlt hkn
              have HX := Lib.hid (hm.out.next BX.out)
              obtain ⟨pa0, pa1, pa2, pa3⟩ := Rec.c4 A8.out
              obtain ⟨pt0, pt1, pt2, pt3⟩ := Rec.c4 T8.out
              obtain ⟨pu0, pu1, pu2, pu3⟩ := Rec.c4 U8.out
              have N1 := neQ s0 s1 s2 s3 t0 t1 t2 t3
              have N2 := neQ t0 t1 t2 t3 m0 m1 m2 m3
              have N3 := neQ s0 s1 s2 s3 m0 m1 m2 m3
              have dn1 : decide ((1 : Int) ≤ n) = true := decide_eq_true (by omega)
              by_cases h1 : (s0, s1, s2, s3) = (t0, t1, t2, t3)
              · have hn3 : ¬ ((n : Int) = 3) := fun h => ((c3.out).1 (by have := hln.out; omega)).1 h1
                have d3 : ((n : Int) == 3) = false := beq_eq_false_iff_ne.2 hn3
                rw [decide_eq_true h1] at N1
                clear h1 N2 N3
                go_wp2_with (go_at_call 7; refine (Sn.out _ HX.out).mono ?_; rintro e w13 ⟨rfl, b13⟩)
                go_ret
                exact ⟨rfl, Buf.then_ BX.out b13⟩
              · rw [decide_eq_false h1] at N1
                by_cases h2 : (t0, t1, t2, t3) = (m0, m1, m2, m3)
                · have hn3 : ¬ ((n : Int) = 3) := fun h => ((c3.out).1 (by have := hln.out; omega)).2.1 h2
                  have d3 : ((n : Int) == 3) = false := beq_eq_false_iff_ne.2 hn3
                  rw [decide_eq_true h2] at N2
                  clear h1 h2 N3
                  go_wp2_with (go_at_call 7; refine (Sn.out _ HX.out).mono ?_; rintro e w13 ⟨rfl, b13⟩)
                  go_ret
                  exact ⟨rfl, Buf.then_ BX.out b13⟩
                · rw [decide_eq_false h2] at N2
                  by_cases h3 : (s0, s1, s2, s3) = (m0, m1, m2, m3)
                  · have hn3 : ¬ ((n : Int) = 3) := fun h => ((c3.out).1 (by have := hln.out; omega)).2.2 h3
                    have d3 : ((n : Int) == 3) = false := beq_eq_false_iff_ne.2 hn3
                    rw [decide_eq_true h3] at N3
                    clear h1 h2 h3
                    go_wp2_with (go_at_call 7; refine (Sn.out _ HX.out).mono ?_; rintro e w13 ⟨rfl, b13⟩)
                    go_ret
                    exact ⟨rfl, Buf.then_ BX.out b13⟩
                  · have hM := (c3.out).2 ⟨h1, h2, h3⟩
                    have hn3 : (n : Int) = 3 := by have := hln.out; omega
                    have d3 : decide ((n : Int) = 3) = true := decide_eq_true hn3
                    rw [decide_eq_false h3] at N3
                    clear h1 h2 h3 hM
                    go_wp2_with (go_at_call 7; refine (Sn.out _ HX.out).mono ?_; rintro e w13 ⟨rfl, b13⟩)
                    go_ret
                    exact ⟨rfl, Buf.then_ BX.out b13⟩
  · have hd : decide ((len0 : Int) ≤ 500) = false := by simp; omega
    go_enter Tryd.func4, Tryd.ntmps4
    go_wp2_with (first | (go_at_call 6; refine (light_any _ _ _ _).mono ?_; rintro e w1 ⟨rfl, rfl⟩; rw [hd]) | (go_at_call 7; refine (Sn.out _ hm.out).mono ?_; rintro e w2 ⟨rfl, hb⟩))
    go_ret
    exact ⟨rfl, hb⟩
end Laws
end Go.Proofs.YtppbejebmlcloaaDoor
