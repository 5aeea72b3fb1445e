/- The functions of span at lists at any offset. -/
import Derived.Test.YtfmhfhggogjbkaaItA
import Derived.Test.YtfmhfhggogjbkaaSpXZ
set_option linter.unusedVariables false
set_option linter.unusedSimpArgs false
namespace Go.Proofs.Ytfmhfhggogjbkaa
open Go.RowKit Go.Sort Dice
namespace Spn
open Sp (cells2 cells2_snoc cells2_get Spans own_kept own_below own_mono own_shape)
theorem itw_of_cells {w : World} {a : Addr} {n c : Nat} (f : Nat → Int × Int) (hc : n ≤ c) (h : ∀ i, i < n → w.cell? (a.add (i * 2)) = some (.int .i64 (f i).1) ∧ w.cell? (a.add (i * 2 + 1)) = some (.int .i64 (f i).2)) : Itw w (.slice (some a) n c) ((List.range n).map f) := by
  refine ⟨some a, c, by simp, by simpa using hc, fun k p hp => ?_⟩
  have hk : k < n := by have := (List.getElem?_eq_some_iff.1 hp).1; simpa using this
  have hpe : p = f k := by simp [List.getElem?_map, List.getElem?_range hk] at hp; exact hp.symm
  subst hpe
  obtain ⟨c0, c1⟩ := h k hk
  have hs : a.spot = none := by
    have c2 := (h 0 (by omega)).1
    rw [Nat.zero_mul] at c2
    have : a.add 0 = a := by simp [Addr.add]
    rw [this] at c2
    unfold World.cell? at c2
    split at c2
    · split at c2
      · cases c2
      · rename_i hh; simpa using hh
    · cases c2
  obtain ⟨g, o, s⟩ := a
  obtain rfl : s = none := hs
  have e : ∀ j, (⟨g, o, none⟩ : Addr).add j = ⟨g, o + j, none⟩ := fun j => by unfold Addr.add; split <;> simp_all
  rw [e] at c0 c1
  refine ⟨g, o, rfl, ?_, c0, by rw [Nat.add_assoc]; exact c1⟩
  rcases Nat.lt_or_ge g w.heap.size with hl | hl
  · exact hl
  · simp [World.cell?, Array.getElem?_eq_none hl] at c0
theorem Itw.far {w w' : World} {v : Value} {L : LP} {d : Nat} (h : Itw w v L) (hg : w.grownBy w' (some d)) (hd : L ≠ [] → v.ownBlock ≠ some d) : Itw w' v L := by
  obtain ⟨ad, c, rfl, hc, hf⟩ := itw_form h
  refine ⟨ad, c, rfl, hc, fun k p hp => ?_⟩
  obtain ⟨g, o, rfl, hl, k0, k1⟩ := hf k p hp
  have hne : some g ≠ some d := fun e => hd (by rintro rfl; cases hp) (by simpa [Value.ownBlock] using e)
  exact ⟨g, o, rfl, Nat.lt_of_lt_of_le hl hg.size, hg.cell k0 hne, hg.cell k1 hne⟩
theorem Its.apart {w : World} {v : Value} {L : LP} {d : Nat} (h : Its w v L) (hd : ∀ x : Int, w.cell? ⟨d, 0, none⟩ ≠ some (.int .i64 x)) : L ≠ [] → v.ownBlock ≠ some d := by
  intro hL e
  obtain ⟨ad, c, rfl, hc, hf⟩ := its_form h
  cases L with
  | nil => exact hL rfl
  | cons p l =>
    obtain ⟨g, rfl, _, k0, _⟩ := hf 0 p rfl
    have : g = d := by simpa [Value.ownBlock] using e
    subst this
    exact hd p.1 (by simpa using k0)
theorem Itw.apart {w : World} {v : Value} {L : LP} {d : Nat} (h : Itw w v L) (hd : w.heap.size ≤ d) : L ≠ [] → v.ownBlock ≠ some d := by
  intro hL e
  obtain ⟨ad, c, rfl, hc, hf⟩ := itw_form h
  cases L with
  | nil => exact hL rfl
  | cons p l =>
    obtain ⟨g, o, rfl, hg, _⟩ := hf 0 p rfl
    have : g = d := by simpa [Value.ownBlock] using e
    omega
set_option maxRecDepth 100000 in
set_option maxHeartbeats 4000000 in
theorem union_anyw {w : World} {va vb : Value} {A B : LP} (ha : Itw w va A) (hb : Itw w vb B) (h9a : A.length ≤ 200) (h9b : B.length ≤ 200) :
    Calls Try.prog 16 #[va, vb] w fun e w' => (∃ r N, e = .returned r ∧ Spans w' w.heap.size r N ∧ Is N (fun x => hasB A x || hasB B x) ∧ N.length ≤ A.length + B.length) ∧ Below w.heap.size w w' := by
  obtain ⟨i0, hi, hz0, hz1, hz2⟩ := info_get infoS
  have C1 := Lib.hid (normal_anyw ha (by omega))
  replace hb := Lib.hid hb
  clear ha
  go_enter Try.func16, Try.ntmps16
  go_wp2_with fail
  refine C1.out.mono ?_
  rintro e w1 ⟨⟨ra, Na, rfl, Oa, Ia, la⟩, b1⟩
  have C2 := Lib.hid (normal_anyw (hb.out.keep b1) (by omega))
  go_wp2_with fail
  refine C2.out.mono ?_
  rintro e w2 ⟨⟨rb, Nb, rfl, Ob, Ib, lb⟩, b2⟩
  have hw1 : w.heap.size ≤ w1.heap.size := b1.size
  have hw2 : w1.heap.size ≤ w2.heap.size := b2.size
  have W2 := Lib.hid (Buf.then_ b1 b2)
  obtain ⟨ad, c, rfl, hc, fa⟩ := its_form (its_of_own (own_below Oa b2))
  obtain ⟨ad', c', rfl, hc', fb⟩ := its_form (its_of_own Ob)
  obtain ⟨n, hn⟩ : ∃ n, n = Na.length := ⟨_, rfl⟩
  obtain ⟨m, hm⟩ : ∃ m, m = Nb.length := ⟨_, rfl⟩
  rw [← hn] at hc la ⊢
  rw [← hm] at hc' lb ⊢
  have hn9 : n ≤ 200 := by omega
  have hm9 : m ≤ 200 := by omega
  have FA := Lib.hid fa
  have FB := Lib.hid fb
  have HA := Lib.hid Ia
  have HBb := Lib.hid Ib
  have LA := Lib.hid la
  have LB := Lib.hid lb
  have mk1 : Hid (i0.bytes * (n + m) ≤ 281474976710656) := Lib.hid (by rw [hz2]; omega)
  have mk2 : Hid (n + m ≤ maxLen) := Lib.hid (by unfold maxLen; omega)
  replace hn := Lib.hid hn
  replace hm := Lib.hid hm
  clear Oa Ob b1 b2 fa fb Ia Ib la lb C1 C2 hb
  go_wp2_with (refine wpList_make_own _ rfl _ _ 23 rfl w2.heap.size 49 i0 (.agg #[.int .i64 0, .int .i64 0]) 2 Try.underlying23 hi hz0 hz1 .i64 .i64 _ (n + m) rfl rfl (by push_cast; omega) mk1.out mk2.out (Nat.le_refl _) ?_; intro w3 O3 G3)
  have B3 : Hid (Below w2.heap.size w2 w3) := Lib.hid ((Below.refl _ _).grown G3 (Nat.le_refl _) (fun k hk => by cases hk))
  replace O3 : Hid (Spans w3 w2.heap.size (.slice (some ⟨w2.heap.size, 0, none⟩) 0 (n + m)) []) := Lib.hid O3
  clear G3
  go_loopw [5, 6, 7] (fun s si sk wr => ∃ (i k : Nat) (N : LP), i ≤ n ∧ k ≤ m ∧ si = .int .i64 i ∧ sk = .int .i64 k ∧ Hid (Spans wr w2.heap.size s N) ∧ Hid (Un Na Nb i k N) ∧ Hid (Below w2.heap.size w2 wr)) (fun _ si sk _ => (n - (intOf si).toNat) + (m - (intOf sk).toNat))
  case atStart => exact ⟨0, 0, [], Nat.zero_le _, Nat.zero_le _, rfl, rfl, O3, Lib.hid (Un.start _ _), B3⟩
  case round =>
    clear O3 B3
    obtain ⟨i, k, N, hi9, hk9, rfl, rfl, HO, HU, HB⟩ := hrel
    have goA : ∀ f t g, Na[i]? = some (f, t) → ad = some ⟨g, 0, none⟩ → g < w2.heap.size ∧ wr.cell? ⟨g, i * 2, none⟩ = some (.int .i64 f) ∧ wr.cell? ⟨g, i * 2 + 1, none⟩ = some (.int .i64 t) := fun f t g hp he => by
      obtain ⟨g', e, h1, h2, h3⟩ := FA.out i _ hp
      rw [he] at e; cases e
      exact ⟨h1, (HB.out.cell (p := ⟨g, _, none⟩) h1).trans h2, (HB.out.cell (p := ⟨g, _, none⟩) h1).trans h3⟩
    have goB : ∀ f t g, Nb[k]? = some (f, t) → ad' = some ⟨g, 0, none⟩ → g < w2.heap.size ∧ wr.cell? ⟨g, k * 2, none⟩ = some (.int .i64 f) ∧ wr.cell? ⟨g, k * 2 + 1, none⟩ = some (.int .i64 t) := fun f t g hp he => by
      obtain ⟨g', e, h1, h2, h3⟩ := FB.out k _ hp
      rw [he] at e; cases e
      exact ⟨h1, (HB.out.cell (p := ⟨g, _, none⟩) h1).trans h2, (HB.out.cell (p := ⟨g, _, none⟩) h1).trans h3⟩
    have hlen := HU.out.len
    by_cases hin : i < n
    · obtain ⟨⟨f, t⟩, hp⟩ : ∃ p, Na[i]? = some p := ⟨Na[i]'(by rw [← hn.out]; exact hin), List.getElem?_eq_getElem _⟩
      obtain ⟨g, rfl, _, _, _⟩ := FA.out i _ hp
      obtain ⟨hg, k0, k1⟩ := goA f t g hp rfl
      have C := fun q => add_any f t (own_below HO.out (Buf.below_drewN (Below.refl _ wr) q)) HB.out.size (by omega)
      replace C := Lib.hid C
      have bi : (i : Int) < n := by omega
      by_cases hkm : k < m
      · obtain ⟨⟨f2, t2⟩, hp2⟩ : ∃ p, Nb[k]? = some p := ⟨Nb[k]'(by rw [← hm.out]; exact hkm), List.getElem?_eq_getElem _⟩
        obtain ⟨g2, rfl, _, _, _⟩ := FB.out k _ hp2
        obtain ⟨hg2, j0, j1⟩ := goB f2 t2 g2 hp2 rfl
        have C' := fun q => add_any f2 t2 (own_below HO.out (Buf.below_drewN (Below.refl _ wr) q)) HB.out.size (by omega)
        replace C' := Lib.hid C'
        have bk : (k : Int) < m := by omega
        have d1 : ((k : Int) == (m : Int)) = false := by simp; omega
        have d1' : decide ((k : Int) = (m : Int)) = false := by simp; omega
        have d1'' : decide (k = m) = false := by simp; omega
        have d2 : decide (i < n) = true := decide_eq_true hin
        by_cases hle : f ≤ f2
        · have U := Lib.hid (HU.out.step HA.out.canon hp (fun q hq => by rw [hp2] at hq; cases hq; exact hle))
          have d3 : decide (f ≤ f2) = true := decide_eq_true hle
          clear goA goB HU C'
          replace hp := Lib.hid hp
          replace hp2 := Lib.hid hp2
          go_wp2_with fail
          go_quiet (fail)
          go_wp2_with fail
          refine (C.out _).mono ?_
          rintro e w4 ⟨⟨s', rfl, O4, hk4⟩, G4⟩
          have B4 := Lib.hid ((Buf.below_drewN HB.out _).grown G4 HB.out.size (fun k hk => (HO.out.lt k hk).1))
          clear HB HO
          go_wp2_with fail
          go_roundw
          case rel => exact ⟨i + 1, k, _, by omega, by omega, by go_num, by go_num, Lib.hid O4, U, B4⟩
          case measure => simp [intOf]; omega
        · have U := Lib.hid (Un.swap (HU.out.swap.step HBb.out.canon hp2 (fun q hq => by rw [hp] at hq; cases hq; show f2 ≤ f; omega)))
          have d3 : decide (f ≤ f2) = false := decide_eq_false hle
          clear goA goB HU C
          replace hp := Lib.hid hp
          replace hp2 := Lib.hid hp2
          go_wp2_with fail
          go_quiet (fail)
          go_wp2_with fail
          refine (C'.out _).mono ?_
          rintro e w4 ⟨⟨s', rfl, O4, hk4⟩, G4⟩
          have B4 := Lib.hid ((Buf.below_drewN HB.out _).grown G4 HB.out.size (fun k hk => (HO.out.lt k hk).1))
          clear HB HO
          go_wp2_with fail
          go_roundw
          case rel => exact ⟨i, k + 1, _, by omega, by omega, by go_num, by go_num, Lib.hid O4, U, B4⟩
          case measure => simp [intOf]; omega
      · obtain rfl : k = m := by omega
        have U := Lib.hid (HU.out.step HA.out.canon hp (fun q hq => by have := (List.getElem?_eq_some_iff.1 hq).1; rw [← hm.out] at this; omega))
        have d2 : decide (i < n) = true := decide_eq_true hin
        clear goA goB HU
        replace hp := Lib.hid hp
        go_wp2_with fail
        go_quiet (fail)
        go_wp2_with fail
        refine (C.out _).mono ?_
        rintro e w4 ⟨⟨s', rfl, O4, hk4⟩, G4⟩
        have B4 := Lib.hid ((Buf.below_drewN HB.out _).grown G4 HB.out.size (fun k hk => (HO.out.lt k hk).1))
        clear HB HO
        go_wp2_with fail
        go_roundw
        case rel => exact ⟨i + 1, k, _, by omega, by omega, by go_num, by go_num, Lib.hid O4, U, B4⟩
        case measure => simp [intOf]; omega
    · obtain rfl : i = n := by omega
      by_cases hkm : k < m
      · obtain ⟨⟨f2, t2⟩, hp2⟩ : ∃ p, Nb[k]? = some p := ⟨Nb[k]'(by rw [← hm.out]; exact hkm), List.getElem?_eq_getElem _⟩
        obtain ⟨g2, rfl, _, _, _⟩ := FB.out k _ hp2
        obtain ⟨hg2, j0, j1⟩ := goB f2 t2 g2 hp2 rfl
        have C' := fun q => add_any f2 t2 (own_below HO.out (Buf.below_drewN (Below.refl _ wr) q)) HB.out.size (by omega)
        replace C' := Lib.hid C'
        have bk : (k : Int) < m := by omega
        have d1 : ((k : Int) == (m : Int)) = false := by simp; omega
        have d1' : decide ((k : Int) = (m : Int)) = false := by simp; omega
        have d1'' : decide (k = m) = false := by simp; omega
        have U := Lib.hid (Un.swap (HU.out.swap.step HBb.out.canon hp2 (fun q hq => by have := (List.getElem?_eq_some_iff.1 hq).1; rw [← hn.out] at this; omega)))
        clear goA goB HU
        replace hp2 := Lib.hid hp2
        go_wp2_with fail
        go_quiet (fail)
        go_wp2_with fail
        refine (C'.out _).mono ?_
        rintro e w4 ⟨⟨s', rfl, O4, hk4⟩, G4⟩
        have B4 := Lib.hid ((Buf.below_drewN HB.out _).grown G4 HB.out.size (fun k hk => (HO.out.lt k hk).1))
        clear HB HO
        go_wp2_with fail
        go_roundw
        case rel => exact ⟨i, k + 1, _, by omega, by omega, by go_num, by go_num, Lib.hid O4, U, B4⟩
        case measure => simp [intOf]; omega
      · obtain rfl : k = m := by omega
        have U := Lib.hid (HU.out.stop (by rw [hn.out]; exact Nat.le_refl _) (by rw [hm.out]; exact Nat.le_refl _))
        clear goA goB
        go_wp2_with fail
        go_ret
        refine ⟨⟨_, N, rfl, own_mono HO.out (Nat.le_trans hw1 hw2), U.out.congr fun x => by rw [HA.out.has, HBb.out.has], ?_⟩, W2.out.trans (HB.out.mono (Nat.le_trans hw1 hw2))⟩
        have := LA.out
        have := LB.out
        omega
set_option maxRecDepth 100000 in
set_option maxHeartbeats 4000000 in
theorem meet_anyw {w : World} {va vb : Value} {A B : LP} (ha : Itw w va A) (hb : Itw w vb B) (h9a : A.length ≤ 200) (h9b : B.length ≤ 200) :
    Calls Try.prog 18 #[va, vb] w fun e w' => (∃ r N, e = .returned r ∧ Spans w' w.heap.size r N ∧ Is N (fun x => hasB A x && hasB B x) ∧ N.length ≤ A.length + B.length) ∧ Below w.heap.size w w' := by
  have C1 := Lib.hid (normal_anyw ha (by omega))
  replace hb := Lib.hid hb
  clear ha
  go_enter Try.func18, Try.ntmps18
  go_wp2_with fail
  refine C1.out.mono ?_
  rintro e w1 ⟨⟨ra, Na, rfl, Oa, Ia, la⟩, b1⟩
  have C2 := Lib.hid (normal_anyw (hb.out.keep b1) (by omega))
  go_wp2_with fail
  refine C2.out.mono ?_
  rintro e w2 ⟨⟨rb, Nb, rfl, Ob, Ib, lb⟩, b2⟩
  have hw1 : w.heap.size ≤ w1.heap.size := b1.size
  have hw2 : w1.heap.size ≤ w2.heap.size := b2.size
  have W2 := Lib.hid (Buf.then_ b1 b2)
  obtain ⟨ad, c, rfl, hc, fa⟩ := its_form (its_of_own (own_below Oa b2))
  obtain ⟨ad', c', rfl, hc', fb⟩ := its_form (its_of_own Ob)
  obtain ⟨n, hn⟩ : ∃ n, n = Na.length := ⟨_, rfl⟩
  obtain ⟨m, hm⟩ : ∃ m, m = Nb.length := ⟨_, rfl⟩
  rw [← hn] at hc la ⊢
  rw [← hm] at hc' lb ⊢
  have hn9 : n ≤ 200 := by omega
  have hm9 : m ≤ 200 := by omega
  have FA := Lib.hid fa
  have FB := Lib.hid fb
  have HA := Lib.hid Ia
  have HBb := Lib.hid Ib
  have LA := Lib.hid la
  have LB := Lib.hid lb
  replace hn := Lib.hid hn
  replace hm := Lib.hid hm
  have B3 : Hid (Below w2.heap.size w2 w2) := Lib.hid (Below.refl _ _)
  have O3 : Hid (Spans w2 w2.heap.size (.slice none 0 0) []) := Lib.hid (World.ownsRow_nil _ _ _ _)
  clear Oa Ob b1 b2 fa fb Ia Ib la lb C1 C2 hb
  go_wp2_with fail
  go_loopw [5, 6, 7] (fun s si sk wr => ∃ (i k : Nat) (N : LP), i ≤ n ∧ k ≤ m ∧ si = .int .i64 i ∧ sk = .int .i64 k ∧ Hid (Spans wr w2.heap.size s N) ∧ Hid (Me Na Nb i k N) ∧ Hid (Below w2.heap.size w2 wr)) (fun _ si sk _ => (n - (intOf si).toNat) + (m - (intOf sk).toNat))
  case atStart => exact ⟨0, 0, [], Nat.zero_le _, Nat.zero_le _, rfl, rfl, O3, Lib.hid (Me.start _ _), B3⟩
  case round =>
    clear O3 B3
    obtain ⟨i, k, N, hi9, hk9, rfl, rfl, HO, HU, HB⟩ := hrel
    have hlen := HU.out.len
    by_cases hin : i < n
    · by_cases hkm : k < m
      · obtain ⟨⟨f, t⟩, hp⟩ : ∃ p, Na[i]? = some p := ⟨Na[i]'(by rw [← hn.out]; exact hin), List.getElem?_eq_getElem _⟩
        obtain ⟨g, rfl, hg, a0, a1⟩ := FA.out i _ hp
        obtain ⟨⟨f2, t2⟩, hp2⟩ : ∃ p, Nb[k]? = some p := ⟨Nb[k]'(by rw [← hm.out]; exact hkm), List.getElem?_eq_getElem _⟩
        obtain ⟨g2, rfl, hg2, b0, b1⟩ := FB.out k _ hp2
        have V : Hid (∀ w', Below w2.heap.size w2 w' → w'.cell? ⟨g, i * 2, none⟩ = some (.int .i64 f) ∧ w'.cell? ⟨g, i * 2 + 1, none⟩ = some (.int .i64 t) ∧ w'.cell? ⟨g2, k * 2, none⟩ = some (.int .i64 f2) ∧ w'.cell? ⟨g2, k * 2 + 1, none⟩ = some (.int .i64 t2)) := Lib.hid fun w' h => ⟨(h.cell (p := ⟨g, _, none⟩) hg).trans a0, (h.cell (p := ⟨g, _, none⟩) hg).trans a1, (h.cell (p := ⟨g2, _, none⟩) hg2).trans b0, (h.cell (p := ⟨g2, _, none⟩) hg2).trans b1⟩
        have C := fun q => add_any (max f f2) (min t t2) (own_below HO.out (Buf.below_drewN (Below.refl _ wr) q)) HB.out.size (by omega)
        replace C := Lib.hid C
        have CD := Lib.hid (add_any (max f f2) (min t t2) (own_below HO.out (Below.refl wr.heap.size wr).drew) HB.out.size (by omega))
        have BD := Lib.hid HB.out.drew
        obtain ⟨v1, v2, v3, v4⟩ := V.out _ (Buf.below_drewN HB.out 1)
        have bi : (i : Int) < n := by omega
        have bk : (k : Int) < m := by omega
        have VQ : Hid (∀ q, (wr.drewN q).cell? ⟨g, i * 2, none⟩ = some (.int .i64 f) ∧ (wr.drewN q).cell? ⟨g, i * 2 + 1, none⟩ = some (.int .i64 t) ∧ (wr.drewN q).cell? ⟨g2, k * 2, none⟩ = some (.int .i64 f2) ∧ (wr.drewN q).cell? ⟨g2, k * 2 + 1, none⟩ = some (.int .i64 t2)) := Lib.hid fun q => V.out _ (Buf.below_drewN HB.out q)
        clear a0 a1 b0 b1
        replace hp := Lib.hid hp
        replace hp2 := Lib.hid hp2
        go_wp2_with fail
        have VD : wr.drew.cell? ⟨g, i * 2, none⟩ = some (.int .i64 f) ∧ wr.drew.cell? ⟨g, i * 2 + 1, none⟩ = some (.int .i64 t) ∧ wr.drew.cell? ⟨g2, k * 2, none⟩ = some (.int .i64 f2) ∧ wr.drew.cell? ⟨g2, k * 2 + 1, none⟩ = some (.int .i64 t2) := VQ.out 1
        go_region_held3 (fun w' => w'.cell? ⟨g, i * 2, none⟩ = some (.int .i64 f) ∧ w'.cell? ⟨g, i * 2 + 1, none⟩ = some (.int .i64 t) ∧ w'.cell? ⟨g2, k * 2, none⟩ = some (.int .i64 f2) ∧ w'.cell? ⟨g2, k * 2 + 1, none⟩ = some (.int .i64 t2)) (first | (with_reducible exact VD) | (with_reducible exact VQ.out _) | (with_reducible exact V.out _ (by assumption)))
          ((first
            | (go_at_call 56; (with_reducible refine CD.out.mono ?_); rintro e w4 ⟨⟨s', rfl, O4, hk4⟩, G4⟩; have B4 := Lib.hid (BD.out.grown G4 HB.out.size (fun k hk => (HO.out.lt k hk).1)); have B4' := B4.out)
            | (go_at_call 56; (with_reducible refine (C.out _).mono ?_); rintro e w4 ⟨⟨s', rfl, O4, hk4⟩, G4⟩; have B4 := Lib.hid ((Buf.below_drewN HB.out _).grown G4 HB.out.size (fun k hk => (HO.out.lt k hk).1)); have B4' := B4.out)))
        all_goals
          obtain ⟨v1, v2, v3, v4⟩ := V.out _ B4.out
          clear VD VQ V C CD BD B4'
          by_cases hlt : t < t2
          · have U := Lib.hid (HU.out.left HA.out.canon HBb.out.canon hp.out hp2.out (by show t ≤ t2; omega))
            have d1 : decide (t < t2) = true := decide_eq_true hlt
            clear HU HO HB
            go_wp2_with fail
            go_quiet (fail)
            go_wp2_with fail
            go_roundw
            case rel => exact ⟨i + 1, k, _, by omega, by omega, by go_num, by go_num, Lib.hid (own_below O4 (Buf.below_drewN (Below.refl _ _) _)), U, Lib.hid (Buf.below_drewN B4.out _)⟩
            case measure => simp [intOf]; omega
          · have U := Lib.hid (HU.out.right HA.out.canon HBb.out.canon hp.out hp2.out (by show t2 ≤ t; omega))
            have d1 : decide (t < t2) = false := decide_eq_false hlt
            clear HU HO HB
            go_wp2_with fail
            go_quiet (fail)
            go_wp2_with fail
            go_roundw
            case rel => exact ⟨i, k + 1, _, by omega, by omega, by go_num, by go_num, Lib.hid (own_below O4 (Buf.below_drewN (Below.refl _ _) _)), U, Lib.hid (Buf.below_drewN B4.out _)⟩
            case measure => simp [intOf]; omega
      · obtain rfl : k = m := by omega
        have U := Lib.hid (HU.out.stop (.inr (by rw [hm.out]; exact Nat.le_refl _)))
        go_wp2_with fail
        go_ret
        refine ⟨⟨_, N, rfl, own_mono HO.out (Nat.le_trans hw1 hw2), U.out.congr fun x => by rw [HA.out.has, HBb.out.has], ?_⟩, W2.out.trans (HB.out.mono (Nat.le_trans hw1 hw2))⟩
        have := LA.out
        have := LB.out
        omega
    · obtain rfl : i = n := by omega
      have U := Lib.hid (HU.out.stop (.inl (by rw [hn.out]; exact Nat.le_refl _)))
      go_wp2_with fail
      go_ret
      refine ⟨⟨_, N, rfl, own_mono HO.out (Nat.le_trans hw1 hw2), U.out.congr fun x => by rw [HA.out.has, HBb.out.has], ?_⟩, W2.out.trans (HB.out.mono (Nat.le_trans hw1 hw2))⟩
      have := LA.out
      have := LB.out
      omega
set_option maxHeartbeats 2000000 in
theorem cut_anyw {w : World} {v : Value} {A : LP} (x y : Int) (h : Itw w v A) (h9 : A.length ≤ 199) :
    Calls Try.prog 29 #[v, .int .i64 x, .int .i64 y] w fun e w' => (∃ r N, e = .returned r ∧ Spans w' w.heap.size r N ∧ Is N (fun z => hasB A z && decide (x ≤ z ∧ z < y)) ∧ N.length ≤ A.length + 1) ∧ Below w.heap.size w w' := by
  have H := Lib.hid h
  clear h
  have W1 := Lib.hid (new_block (w := w) (.cells #[.int .i64 x, .int .i64 y] 49))
  have K := c2 (heap_alloc_new w (.cells #[.int .i64 x, .int .i64 y] 49))
  have I2 : Hid (Its (w.alloc (.cells #[.int .i64 x, .int .i64 y] 49)) (.slice (some ⟨w.heap.size, 0, none⟩) 1 1) [(x, y)]) := Lib.hid (.inr ⟨_, 1, rfl, Nat.le_refl _, by simp, fun k p hp => by
    have hk : k = 0 := by have := (List.getElem?_eq_some_iff.1 hp).1; simp at this; omega
    subst hk
    simp at hp
    subst hp
    exact K⟩)
  have C := Lib.hid (meet_anyw (H.out.keep W1.out) I2.out.wide (by omega) (by simp))
  clear K
  go_enter Try.func29, Try.ntmps29
  go_wp2_with (go_at_call 18; with_reducible refine C.out.mono ?_; rintro e w2 ⟨⟨r, N, rfl, O, I, hl⟩, b⟩)
  go_ret
  exact ⟨⟨_, N, rfl, own_mono O W1.out.size, I.congr fun z => by simp [hasB_cons, hasB_nil], by simpa using hl⟩, Buf.then_ W1.out b⟩
set_option maxRecDepth 100000 in
set_option maxHeartbeats 8000000 in
theorem minus_anyw {w : World} {va vb : Value} {A B : LP} (ha : Itw w va A) (hb : Itw w vb B) (h9a : A.length ≤ 100) (h9b : B.length ≤ 100) :
    Calls Try.prog 20 #[va, vb] w fun e w' => (∃ r N, e = .returned r ∧ Spans w' w.heap.size r N ∧ Is N (fun x => hasB A x && !hasB B x) ∧ N.length ≤ B.length + 2 * A.length) ∧ Below w.heap.size w w' := by
  have C1 := Lib.hid (normal_anyw ha (by omega))
  replace hb := Lib.hid hb
  clear ha
  go_enter Try.func20, Try.ntmps20
  go_wp2_with fail
  refine C1.out.mono ?_
  rintro e w1 ⟨⟨ra, Na, rfl, Oa, Ia, la⟩, b1⟩
  have C2 := Lib.hid (normal_anyw (hb.out.keep b1) (by omega))
  go_wp2_with fail
  refine C2.out.mono ?_
  rintro e w2 ⟨⟨rb, Nb, rfl, Ob, Ib, lb⟩, b2⟩
  have hw1 : w.heap.size ≤ w1.heap.size := b1.size
  have hw2 : w1.heap.size ≤ w2.heap.size := b2.size
  have W2 := Lib.hid (Buf.then_ b1 b2)
  obtain ⟨ad, c, rfl, hc, fa⟩ := its_form (its_of_own (own_below Oa b2))
  obtain ⟨ad', c', rfl, hc', fb⟩ := its_form (its_of_own Ob)
  obtain ⟨n, hn⟩ : ∃ n, n = Na.length := ⟨_, rfl⟩
  obtain ⟨m, hm⟩ : ∃ m, m = Nb.length := ⟨_, rfl⟩
  rw [← hn] at hc la ⊢
  rw [← hm] at hc' lb ⊢
  have hn9 : n ≤ 100 := by omega
  have hm9 : m ≤ 100 := by omega
  have FA := Lib.hid fa
  have FB := Lib.hid fb
  have HA := Lib.hid Ia
  have HBb := Lib.hid Ib
  have LA := Lib.hid la
  have LB := Lib.hid lb
  obtain ⟨g2, hg2⟩ : ∃ g2, ∀ (k : Nat) (p : Int × Int), Nb[k]? = some p → ad' = some ⟨g2, 0, none⟩ := by
    cases ad' with
    | none => exact ⟨0, fun k p hp => by obtain ⟨g, e, _⟩ := fb k p hp; cases e⟩
    | some a => exact ⟨a.block, fun k p hp => by obtain ⟨g, e, _⟩ := fb k p hp; cases e; rfl⟩
  replace hg2 := Lib.hid hg2
  replace hn := Lib.hid hn
  replace hm := Lib.hid hm
  have B3 : Hid (Below w2.heap.size w2 w2) := Lib.hid (Below.refl _ _)
  have O3 : Hid (Spans w2 w2.heap.size (.slice none 0 0) []) := Lib.hid (World.ownsRow_nil _ _ _ _)
  clear Oa Ob b1 b2 fa fb Ia Ib la lb C1 C2 hb
  go_wp2_with fail
  go_loopw [15, 5, 6] (fun si s sk wr => ∃ (i k : Nat) (N : LP), i ≤ n ∧ k ≤ m ∧ si = .int .i64 i ∧ sk = .int .i64 k ∧ Hid (Spans wr w2.heap.size s N) ∧ Hid (Mi Na Nb i k N) ∧ Hid (Below w2.heap.size w2 wr)) (fun si _ _ _ => n - (intOf si).toNat)
  case atStart => exact ⟨0, 0, [], Nat.zero_le _, Nat.zero_le _, rfl, rfl, O3, Lib.hid (Mi.start _ _), B3⟩
  case round =>
    clear O3 B3

    obtain ⟨i, k0, N, hi9, hk9, rfl, rfl, HO, HU, HB⟩ := hrel
    have hlen0 := HU.out.len
    obtain ⟨wo, hwo⟩ : ∃ wo, wo = wr := ⟨_, rfl⟩
    rw [← hwo] at HO HB ⊢
    clear hwo wr
    by_cases hin : i < n
    · obtain ⟨⟨lo, t⟩, hp⟩ : ∃ p, Na[i]? = some p := ⟨Na[i]'(by rw [← hn.out]; exact hin), List.getElem?_eq_getElem _⟩
      obtain ⟨g, rfl, hg, a0, a1⟩ := FA.out i _ hp
      have k1 := (HB.out.cell (p := ⟨g, _, none⟩) hg).trans a0
      have k2 := (HB.out.cell (p := ⟨g, _, none⟩) hg).trans a1
      have hlt := HA.out.canon.at hp
      have hmb := Lib.hid fun (j : Nat) (r : Int × Int) (hj : j < k0) (hr : Nb[j]? = some r) => HU.out.bef j r _ hj hr hp
      dsimp only at k1 k2 hlt
      have bi : (i : Int) < n := by omega
      obtain ⟨w8, hw8⟩ : ∃ w8, w8 = wo.alloc (.cells #[.int .i64 lo, .int .i64 t] 49) := ⟨_, rfl⟩
      have B8 := Lib.hid (show Below w2.heap.size w2 w8 by rw [hw8]; exact HB.out.alloc HB.out.size _)
      have X8 := Lib.hid (show w8.heap[wo.heap.size]? = some (.cells #[.int .i64 lo, .int .i64 t] 49 (0, 0)) by rw [hw8]; exact heap_alloc_new wo _)
      have O8 := Lib.hid (show Spans w8 w2.heap.size u5 N by rw [hw8]; exact own_below HO.out (new_block _))
      have N8 : Hid (u5.ownBlock ≠ some wo.heap.size) := Lib.hid fun e => by have := (HO.out.lt _ e).2; omega
      have g8 : Hid (w2.heap.size ≤ wo.heap.size) := Lib.hid HB.out.size
      replace hp := Lib.hid hp
      clear a0 a1
      go_upto_region 7 with fail
      rw [← hw8]
      clear hw8
      have A8 := Lib.hid (Below.refl w8.heap.size w8)
      go_loopw [6] (fun sk wr => ∃ k : Nat, k0 ≤ k ∧ k ≤ m ∧ sk = .int .i64 k ∧ Hid (∀ (j : Nat) (r : Int × Int), j < k → Nb[j]? = some r → r.2 ≤ lo) ∧ Hid (Below w8.heap.size w8 wr)) (fun sk _ => m - (intOf sk).toNat)
      case atStart => exact ⟨k0, Nat.le_refl _, hk9, rfl, hmb, A8⟩
      case round =>
        clear A8 hmb
        obtain ⟨k, hk0, hk9', rfl, BEF, WA⟩ := hrel
        obtain ⟨x0, x1⟩ := c2 (hop WA.out X8.out)
        by_cases hkm : k < m
        · obtain ⟨⟨f2, t2⟩, hp2⟩ : ∃ p, Nb[k]? = some p := ⟨Nb[k]'(by rw [← hm.out]; exact hkm), List.getElem?_eq_getElem _⟩
          cases hg2.out k _ hp2
          obtain ⟨g', e', hgg, b0, b1⟩ := FB.out k _ hp2
          cases e'
          have j1 := ((B8.out.trans (WA.out.mono B8.out.size)).cell (p := ⟨g2, _, none⟩) hgg).trans b1
          dsimp only at j1
          have bk : (k : Int) < m := by omega
          clear b0 b1
          by_cases hle : t2 ≤ lo
          · have d1 : decide (t2 ≤ lo) = true := decide_eq_true hle
            have BEF' : Hid (∀ (j : Nat) (r : Int × Int), j < k + 1 → Nb[j]? = some r → r.2 ≤ lo) := Lib.hid fun j r hj hr => by
              by_cases e : j = k
              · subst e; rw [hp2] at hr; cases hr; exact hle
              · exact BEF.out j r (by omega) hr
            replace hp2 := Lib.hid hp2
            clear BEF
            go_wp2_with fail
            go_quiet (fail)
            go_wp2_with fail
            go_roundw
            case rel => exact ⟨k + 1, by omega, by omega, by go_num, BEF', Lib.hid (Buf.below_drewN WA.out _)⟩
            case measure => simp [intOf]; omega
          · have d1 : decide (t2 ≤ lo) = false := decide_eq_false hle
            replace hp2 := Lib.hid hp2
            go_wp2_with fail
            go_quiet (fail)
            go_wp2_with fail
            replace WA := Lib.hid (Buf.below_drewN WA.out nq)
            generalize wr.drewN nq = wr at *
            clear hle d1 x0 x1 j1 hp2
            have J0 := Lib.hid (Mj.start HU.out hp.out hk0 BEF.out hlt)
            have OA := Lib.hid (own_below O8.out (show Below w8.heap.size w8 wr from WA.out))
            have XA := Lib.hid (hop WA.out X8.out)
            have BA := Lib.hid (B8.out.trans (WA.out.mono B8.out.size))
            clear BEF WA
            go_loopw [5, 6] (fun s sk wr => ∃ (f : Int) (k : Nat) (N : LP), k ≤ m ∧ sk = .int .i64 k ∧ Hid (Spans wr w2.heap.size s N) ∧ Hid (s.ownBlock ≠ some wo.heap.size) ∧ Hid (wr.heap[wo.heap.size]? = some (.cells #[.int .i64 f, .int .i64 t] 49 (0, 0))) ∧ Hid (Mj Na Nb i k lo f t N) ∧ Hid (Below w2.heap.size w2 wr)) (fun _ sk _ => m - (intOf sk).toNat)
            case atStart => exact ⟨lo, k, N, by omega, rfl, OA, N8, XA, J0, BA⟩
            case round =>
              clear J0 OA XA BA hk0 hk9'
              try clear bk
              try clear d0
              clear hkm
              obtain ⟨f, k, N', hk9', rfl, HO', HN, HX, HJ, HB'⟩ := hrel
              have hl := HJ.out.len
              obtain ⟨x0, x1⟩ := c2 HX.out
              have hft := HJ.out.lt
              have hsz : wo.heap.size < wr.heap.size := (Array.getElem?_eq_some_iff.1 HX.out).1
              by_cases hkm : k < m
              · obtain ⟨⟨f2, t2⟩, hp2⟩ : ∃ p, Nb[k]? = some p := ⟨Nb[k]'(by rw [← hm.out]; exact hkm), List.getElem?_eq_getElem _⟩
                cases hg2.out k _ hp2
                obtain ⟨g', e', hgg, b0, b1⟩ := FB.out k _ hp2
                cases e'
                have V : Hid (∀ w', Below w2.heap.size w2 w' → w'.cell? ⟨g2, k * 2, none⟩ = some (.int .i64 f2) ∧ w'.cell? ⟨g2, k * 2 + 1, none⟩ = some (.int .i64 t2)) := Lib.hid fun w' h => ⟨(h.cell (p := ⟨g2, _, none⟩) hgg).trans b0, (h.cell (p := ⟨g2, _, none⟩) hgg).trans b1⟩
                obtain ⟨j0, j1⟩ := V.out _ HB'.out
                have bk : (k : Int) < m := by omega
                clear b0 b1
                by_cases hb1 : f2 < t
                · have d1 : decide (f2 < t) = true := decide_eq_true hb1
                  go_wp2_with fail
                  go_quiet (fail)
                  go_wp2_with fail
                  obtain ⟨wq, hwq⟩ : ∃ wq, wq = wr.drewN nq := ⟨_, rfl⟩
                  have Bq := Lib.hid (show Below w2.heap.size w2 wq by rw [hwq]; exact Buf.below_drewN HB'.out nq)
                  have Oq := Lib.hid (show Spans wq w2.heap.size u5 N' by rw [hwq]; exact own_below HO'.out (Buf.below_drewN (Below.refl _ wr) nq))
                  have Xq := Lib.hid (show wq.heap[wo.heap.size]? = some (.cells #[.int .i64 f, .int .i64 t] 49 (0, 0)) by rw [hwq]; exact HX.out)
                  rw [← hwq]
                  clear hwq x0 x1 j0 j1 HB' HO' HX
                  have CD := Lib.hid (add_any f f2 (own_below Oq.out (Below.refl wq.heap.size wq).drew) Bq.out.size (by omega))
                  have VD : wq.drew.cell? ⟨wo.heap.size, 0, none⟩ = some (.int .i64 f) ∧ wq.drew.cell? ⟨g2, k * 2, none⟩ = some (.int .i64 f2) := ⟨(c2 Xq.out).1, (V.out _ Bq.out).1⟩
                  go_region_held3 (fun w' => w'.cell? ⟨wo.heap.size, 0, none⟩ = some (.int .i64 f) ∧ w'.cell? ⟨g2, k * 2, none⟩ = some (.int .i64 f2)) (first | (with_reducible exact VD) | (with_reducible exact ⟨q0, q1⟩))
                    ((first
                      | (go_at_call 56; (with_reducible refine CD.out.mono ?_); rintro e w4 ⟨⟨s', rfl, O4, hk4⟩, G4⟩; have X4 := Lib.hid ((G4.block wo.heap.size (Array.getElem?_eq_some_iff.1 Xq.out).1 (fun e => HN.out e.symm)).trans Xq.out); have B4 := Lib.hid (Bq.out.drew.grown G4 Bq.out.size (fun k hk => (Oq.out.lt k hk).1)); have q0 := (c2 X4.out).1; have q1 := (V.out _ B4.out).1)))
                  have N4 : Hid (s'.ownBlock ≠ some wo.heap.size) := Lib.hid fun e => by
                    rcases hk4 _ e with h | h
                    · exact HN.out h
                    · have h2 := (Array.getElem?_eq_some_iff.1 Xq.out).1
                      have h3 : wq.drew.heap.size = wq.heap.size := rfl
                      omega
                  have x0 := (c2 X4.out).1
                  have j1 := (V.out _ B4.out).2
                  have z0 := frozen_of_row w4 wo.heap.size 0 _ _ X4.out
                  replace O4 := Lib.hid O4
                  clear VD CD Oq Bq Xq G4 q0 q1 hk4
                  go_wp2_with fail
                  go_region
                  obtain ⟨w5, hw5⟩ : ∃ w5, w5 = (w4.setCell ⟨wo.heap.size, 0, none⟩ (.int .i64 (max f t2))).drew := ⟨_, rfl⟩
                  have B5 := Lib.hid (show Below w2.heap.size w2 w5 by rw [hw5]; exact (B4.out.setCell (p := ⟨wo.heap.size, 0, none⟩) g8.out _).drew)
                  have O5 := Lib.hid (show Spans w5 w2.heap.size s' (addL N' (f, f2)) by rw [hw5]; exact own_set O4.out N4.out _)
                  have X5 := Lib.hid (show w5.heap[wo.heap.size]? = some (.cells #[.int .i64 (max f t2), .int .i64 t] 49 (0, 0)) by rw [hw5]; exact box_set X4.out)
                  rw [← hw5]
                  clear hw5 O4 X4 B4 x0 j1 z0
                  have hl5 : (addL N' (f, f2)).length ≤ 400 := by have := (addL_spec HJ.out.is.canon (s := (f, f2)) HJ.out.le).2.2.2; omega
                  by_cases hov : t ≤ max f t2
                  · have U := Lib.hid (HJ.out.over HA.out.canon HBb.out.canon hp.out hp2 hb1 hov)
                    have d2 : decide (t ≤ max f t2) = true := decide_eq_true hov
                    have CF := Lib.hid (add_any (max f t2) t O5.out B5.out.size (by omega))
                    obtain ⟨F, hF⟩ : ∃ F, F = max f t2 := ⟨_, rfl⟩
                    rw [← hF] at X5 d2 CF U ⊢
                    obtain ⟨x0, x1⟩ := c2 X5.out
                    replace hF := Lib.hid hF
                    clear hov
                    go_wp2_with fail
                    refine (CF.out).mono ?_
                    rintro e w9 ⟨⟨s9, rfl, O9, hk9⟩, G9⟩
                    have B9 := Lib.hid (B5.out.grown G9 B5.out.size (fun k hk => (O5.out.lt k hk).1))
                    go_wp2_with fail
                    go_roundw
                    case rel => exact ⟨i + 1, k, _, by omega, by omega, by go_num, rfl, Lib.hid O9, U, B9⟩
                    case measure => simp [intOf]; omega
                  · have J' := Lib.hid (HJ.out.next HBb.out.canon hp2 (show max f t2 < t by omega))
                    have d2 : decide (t ≤ max f t2) = false := decide_eq_false hov
                    obtain ⟨F, hF⟩ : ∃ F, F = max f t2 := ⟨_, rfl⟩
                    have J2 : Hid (Mj Na Nb i (k + 1) lo F t (addL N' (f, f2))) := Lib.hid (by rw [hF]; exact J'.out)
                    rw [← hF] at X5 d2 ⊢
                    obtain ⟨x0, x1⟩ := c2 X5.out
                    replace hF := Lib.hid hF
                    clear hov J'
                    go_wp2_with fail
                    go_roundw
                    case rel => exact ⟨F, k + 1, _, by omega, by go_num, O5, N4, X5, J2, B5⟩
                    case measure => simp [intOf]; omega
                · have hb2 : t ≤ f2 := by omega
                  have d1 : decide (f2 < t) = false := decide_eq_false hb1
                  have U := Lib.hid (HJ.out.rest HA.out.canon HBb.out.canon hp.out (fun q hq => by rw [hp2] at hq; cases hq; exact hb2))
                  have CF := Lib.hid fun q => add_any f t (own_below HO'.out (Buf.below_drewN (Below.refl _ wr) q)) HB'.out.size (by omega)
                  have BF := Lib.hid HB'.out
                  go_wp2_with fail
                  go_quiet (fail)
                  go_wp2_with fail
                  refine (CF.out _).mono ?_
                  rintro e w9 ⟨⟨s9, rfl, O9, hk9⟩, G9⟩
                  have B9 := Lib.hid ((Lib.hid (Buf.below_drewN HB'.out _)).out.grown G9 (Lib.hid (Buf.below_drewN HB'.out _)).out.size (fun k hk => (HO'.out.lt k hk).1))
                  go_wp2_with fail
                  go_roundw
                  case rel => exact ⟨i + 1, k, _, by omega, by omega, by go_num, rfl, Lib.hid O9, U, B9⟩
                  case measure => simp [intOf]; omega
              · have d0 : decide (k < m) = false := decide_eq_false hkm
                have hkm' : m ≤ k := by omega
                have U := Lib.hid (HJ.out.rest HA.out.canon HBb.out.canon hp.out (fun q hq => by have := (List.getElem?_eq_some_iff.1 hq).1; rw [← hm.out] at this; omega))
                have CF := Lib.hid fun q => add_any f t (own_below HO'.out (Buf.below_drewN (Below.refl _ wr) q)) HB'.out.size (by omega)
                go_wp2_with fail
                go_quiet (fail)
                go_wp2_with fail
                refine (CF.out _).mono ?_
                rintro e w9 ⟨⟨s9, rfl, O9, hk9⟩, G9⟩
                have B9 := Lib.hid ((Lib.hid (Buf.below_drewN HB'.out _)).out.grown G9 (Lib.hid (Buf.below_drewN HB'.out _)).out.size (fun k hk => (HO'.out.lt k hk).1))
                go_wp2_with fail
                go_roundw
                case rel => exact ⟨i + 1, k, _, by omega, by omega, by go_num, rfl, Lib.hid O9, U, B9⟩
                case measure => simp [intOf]; omega
        · have d0 : decide (k < m) = false := decide_eq_false hkm
          have hkm' : m ≤ k := by omega
          go_wp2_with fail
          go_quiet (fail)
          go_wp2_with fail
          replace WA := Lib.hid (Buf.below_drewN WA.out nq)
          generalize wr.drewN nq = wr at *
          clear x0 x1 hkm'
          have J0 := Lib.hid (Mj.start HU.out hp.out hk0 BEF.out hlt)
          have OA := Lib.hid (own_below O8.out (show Below w8.heap.size w8 wr from WA.out))
          have XA := Lib.hid (hop WA.out X8.out)
          have BA := Lib.hid (B8.out.trans (WA.out.mono B8.out.size))
          clear BEF WA
          go_loopw [5, 6] (fun s sk wr => ∃ (f : Int) (k : Nat) (N : LP), k ≤ m ∧ sk = .int .i64 k ∧ Hid (Spans wr w2.heap.size s N) ∧ Hid (s.ownBlock ≠ some wo.heap.size) ∧ Hid (wr.heap[wo.heap.size]? = some (.cells #[.int .i64 f, .int .i64 t] 49 (0, 0))) ∧ Hid (Mj Na Nb i k lo f t N) ∧ Hid (Below w2.heap.size w2 wr)) (fun _ sk _ => m - (intOf sk).toNat)
          case atStart => exact ⟨lo, k, N, by omega, rfl, OA, N8, XA, J0, BA⟩
          case round =>
            clear J0 OA XA BA hk0 hk9'
            try clear bk
            try clear d0
            clear hkm
            obtain ⟨f, k, N', hk9', rfl, HO', HN, HX, HJ, HB'⟩ := hrel
            have hl := HJ.out.len
            obtain ⟨x0, x1⟩ := c2 HX.out
            have hft := HJ.out.lt
            have hsz : wo.heap.size < wr.heap.size := (Array.getElem?_eq_some_iff.1 HX.out).1
            by_cases hkm : k < m
            · obtain ⟨⟨f2, t2⟩, hp2⟩ : ∃ p, Nb[k]? = some p := ⟨Nb[k]'(by rw [← hm.out]; exact hkm), List.getElem?_eq_getElem _⟩
              cases hg2.out k _ hp2
              obtain ⟨g', e', hgg, b0, b1⟩ := FB.out k _ hp2
              cases e'
              have V : Hid (∀ w', Below w2.heap.size w2 w' → w'.cell? ⟨g2, k * 2, none⟩ = some (.int .i64 f2) ∧ w'.cell? ⟨g2, k * 2 + 1, none⟩ = some (.int .i64 t2)) := Lib.hid fun w' h => ⟨(h.cell (p := ⟨g2, _, none⟩) hgg).trans b0, (h.cell (p := ⟨g2, _, none⟩) hgg).trans b1⟩
              obtain ⟨j0, j1⟩ := V.out _ HB'.out
              have bk : (k : Int) < m := by omega
              clear b0 b1
              by_cases hb1 : f2 < t
              · have d1 : decide (f2 < t) = true := decide_eq_true hb1
                go_wp2_with fail
                go_quiet (fail)
                go_wp2_with fail
                obtain ⟨wq, hwq⟩ : ∃ wq, wq = wr.drewN nq := ⟨_, rfl⟩
                have Bq := Lib.hid (show Below w2.heap.size w2 wq by rw [hwq]; exact Buf.below_drewN HB'.out nq)
                have Oq := Lib.hid (show Spans wq w2.heap.size u5 N' by rw [hwq]; exact own_below HO'.out (Buf.below_drewN (Below.refl _ wr) nq))
                have Xq := Lib.hid (show wq.heap[wo.heap.size]? = some (.cells #[.int .i64 f, .int .i64 t] 49 (0, 0)) by rw [hwq]; exact HX.out)
                rw [← hwq]
                clear hwq x0 x1 j0 j1 HB' HO' HX
                have CD := Lib.hid (add_any f f2 (own_below Oq.out (Below.refl wq.heap.size wq).drew) Bq.out.size (by omega))
                have VD : wq.drew.cell? ⟨wo.heap.size, 0, none⟩ = some (.int .i64 f) ∧ wq.drew.cell? ⟨g2, k * 2, none⟩ = some (.int .i64 f2) := ⟨(c2 Xq.out).1, (V.out _ Bq.out).1⟩
                go_region_held3 (fun w' => w'.cell? ⟨wo.heap.size, 0, none⟩ = some (.int .i64 f) ∧ w'.cell? ⟨g2, k * 2, none⟩ = some (.int .i64 f2)) (first | (with_reducible exact VD) | (with_reducible exact ⟨q0, q1⟩))
                  ((first
                    | (go_at_call 56; (with_reducible refine CD.out.mono ?_); rintro e w4 ⟨⟨s', rfl, O4, hk4⟩, G4⟩; have X4 := Lib.hid ((G4.block wo.heap.size (Array.getElem?_eq_some_iff.1 Xq.out).1 (fun e => HN.out e.symm)).trans Xq.out); have B4 := Lib.hid (Bq.out.drew.grown G4 Bq.out.size (fun k hk => (Oq.out.lt k hk).1)); have q0 := (c2 X4.out).1; have q1 := (V.out _ B4.out).1)))
                have N4 : Hid (s'.ownBlock ≠ some wo.heap.size) := Lib.hid fun e => by
                  rcases hk4 _ e with h | h
                  · exact HN.out h
                  · have h2 := (Array.getElem?_eq_some_iff.1 Xq.out).1
                    have h3 : wq.drew.heap.size = wq.heap.size := rfl
                    omega
                have x0 := (c2 X4.out).1
                have j1 := (V.out _ B4.out).2
                have z0 := frozen_of_row w4 wo.heap.size 0 _ _ X4.out
                replace O4 := Lib.hid O4
                clear VD CD Oq Bq Xq G4 q0 q1 hk4
                go_wp2_with fail
                go_region
                obtain ⟨w5, hw5⟩ : ∃ w5, w5 = (w4.setCell ⟨wo.heap.size, 0, none⟩ (.int .i64 (max f t2))).drew := ⟨_, rfl⟩
                have B5 := Lib.hid (show Below w2.heap.size w2 w5 by rw [hw5]; exact (B4.out.setCell (p := ⟨wo.heap.size, 0, none⟩) g8.out _).drew)
                have O5 := Lib.hid (show Spans w5 w2.heap.size s' (addL N' (f, f2)) by rw [hw5]; exact own_set O4.out N4.out _)
                have X5 := Lib.hid (show w5.heap[wo.heap.size]? = some (.cells #[.int .i64 (max f t2), .int .i64 t] 49 (0, 0)) by rw [hw5]; exact box_set X4.out)
                rw [← hw5]
                clear hw5 O4 X4 B4 x0 j1 z0
                have hl5 : (addL N' (f, f2)).length ≤ 400 := by have := (addL_spec HJ.out.is.canon (s := (f, f2)) HJ.out.le).2.2.2; omega
                by_cases hov : t ≤ max f t2
                · have U := Lib.hid (HJ.out.over HA.out.canon HBb.out.canon hp.out hp2 hb1 hov)
                  have d2 : decide (t ≤ max f t2) = true := decide_eq_true hov
                  have CF := Lib.hid (add_any (max f t2) t O5.out B5.out.size (by omega))
                  obtain ⟨F, hF⟩ : ∃ F, F = max f t2 := ⟨_, rfl⟩
                  rw [← hF] at X5 d2 CF U ⊢
                  obtain ⟨x0, x1⟩ := c2 X5.out
                  replace hF := Lib.hid hF
                  clear hov
                  go_wp2_with fail
                  refine (CF.out).mono ?_
                  rintro e w9 ⟨⟨s9, rfl, O9, hk9⟩, G9⟩
                  have B9 := Lib.hid (B5.out.grown G9 B5.out.size (fun k hk => (O5.out.lt k hk).1))
                  go_wp2_with fail
                  go_roundw
                  case rel => exact ⟨i + 1, k, _, by omega, by omega, by go_num, rfl, Lib.hid O9, U, B9⟩
                  case measure => simp [intOf]; omega
                · have J' := Lib.hid (HJ.out.next HBb.out.canon hp2 (show max f t2 < t by omega))
                  have d2 : decide (t ≤ max f t2) = false := decide_eq_false hov
                  obtain ⟨F, hF⟩ : ∃ F, F = max f t2 := ⟨_, rfl⟩
                  have J2 : Hid (Mj Na Nb i (k + 1) lo F t (addL N' (f, f2))) := Lib.hid (by rw [hF]; exact J'.out)
                  rw [← hF] at X5 d2 ⊢
                  obtain ⟨x0, x1⟩ := c2 X5.out
                  replace hF := Lib.hid hF
                  clear hov J'
                  go_wp2_with fail
                  go_roundw
                  case rel => exact ⟨F, k + 1, _, by omega, by go_num, O5, N4, X5, J2, B5⟩
                  case measure => simp [intOf]; omega
              · have hb2 : t ≤ f2 := by omega
                have d1 : decide (f2 < t) = false := decide_eq_false hb1
                have U := Lib.hid (HJ.out.rest HA.out.canon HBb.out.canon hp.out (fun q hq => by rw [hp2] at hq; cases hq; exact hb2))
                have CF := Lib.hid fun q => add_any f t (own_below HO'.out (Buf.below_drewN (Below.refl _ wr) q)) HB'.out.size (by omega)
                have BF := Lib.hid HB'.out
                go_wp2_with fail
                go_quiet (fail)
                go_wp2_with fail
                refine (CF.out _).mono ?_
                rintro e w9 ⟨⟨s9, rfl, O9, hk9⟩, G9⟩
                have B9 := Lib.hid ((Lib.hid (Buf.below_drewN HB'.out _)).out.grown G9 (Lib.hid (Buf.below_drewN HB'.out _)).out.size (fun k hk => (HO'.out.lt k hk).1))
                go_wp2_with fail
                go_roundw
                case rel => exact ⟨i + 1, k, _, by omega, by omega, by go_num, rfl, Lib.hid O9, U, B9⟩
                case measure => simp [intOf]; omega
            · have d0 : decide (k < m) = false := decide_eq_false hkm
              have hkm' : m ≤ k := by omega
              have U := Lib.hid (HJ.out.rest HA.out.canon HBb.out.canon hp.out (fun q hq => by have := (List.getElem?_eq_some_iff.1 hq).1; rw [← hm.out] at this; omega))
              have CF := Lib.hid fun q => add_any f t (own_below HO'.out (Buf.below_drewN (Below.refl _ wr) q)) HB'.out.size (by omega)
              go_wp2_with fail
              go_quiet (fail)
              go_wp2_with fail
              refine (CF.out _).mono ?_
              rintro e w9 ⟨⟨s9, rfl, O9, hk9⟩, G9⟩
              have B9 := Lib.hid ((Lib.hid (Buf.below_drewN HB'.out _)).out.grown G9 (Lib.hid (Buf.below_drewN HB'.out _)).out.size (fun k hk => (HO'.out.lt k hk).1))
              go_wp2_with fail
              go_roundw
              case rel => exact ⟨i + 1, k, _, by omega, by omega, by go_num, rfl, Lib.hid O9, U, B9⟩
              case measure => simp [intOf]; omega
    · obtain rfl : i = n := by omega
      have U := Lib.hid (HU.out.stop (by rw [hn.out]; exact Nat.le_refl _))
      go_wp2_with fail
      go_ret
      refine ⟨⟨_, N, rfl, own_mono HO.out (Nat.le_trans hw1 hw2), U.out.congr fun x => by rw [HA.out.has, HBb.out.has], ?_⟩, W2.out.trans (HB.out.mono (Nat.le_trans hw1 hw2))⟩
      have := LA.out
      have := LB.out
      omega
set_option maxRecDepth 100000 in
set_option maxHeartbeats 4000000 in
theorem first_genw {w : World} {v : Value} {L : LP} (n0 : Int) (h : Itw w v L) (hI : Inside L (-9223372036854775808) 9223372036854775807) (h9 : L.length ≤ 500) (n00 : -9223372036854775808 ≤ n0) (n09 : n0 ≤ 9223372036854775807) :
    Calls Try.prog 31 #[v, .int .i64 n0] w fun e w' => (∃ r N, Is N (hasB L) ∧ N.length ≤ L.length ∧ e = .returned r ∧ Spans w' w.heap.size r (firstL N n0)) ∧ Below w.heap.size w w' := by
  obtain ⟨i0, hi, hz0, hz1, hz2⟩ := info_get infoS
  have C1 := Lib.hid (normal_anyw h h9)
  replace hI := Lib.hid hI
  clear h
  go_enter Try.func31, Try.ntmps31
  go_wp2_with fail
  refine C1.out.mono ?_
  rintro e w1 ⟨⟨r, N, rfl, O, I, hl⟩, b1⟩
  have HI := Lib.hid (I.inside hI.out)
  have HC := Lib.hid I.canon
  have HL := Lib.hid hl
  obtain ⟨ad, c, rfl, hc, hf⟩ := its_form (its_of_own O)
  obtain ⟨m, hn⟩ : ∃ m, m = N.length := ⟨_, rfl⟩
  rw [← hn] at hc hl ⊢
  replace hn := Lib.hid hn
  have hn9 : m ≤ 500 := by omega
  have F := Lib.hid hf
  have B1 := Lib.hid b1
  have hw1 := b1.size
  have A0 := Lib.hid (Below.refl w1.heap.size w1)
  have Z0 : Hid (Spans w1 w1.heap.size (.slice none 0 0) []) := Lib.hid (World.ownsRow_nil _ _ _ _)
  replace I := Lib.hid I
  clear O hf b1 C1 hl h9
  go_wp2_with fail
  go_loopw [12, 5, 1] (fun i s x wr => ∃ (k : Nat) (u : Int) (S : LP), k ≤ m ∧ i = .int .i64 k ∧ x = .int .i64 u ∧ -9223372036854775808 ≤ u ∧ u ≤ 9223372036854775807 ∧ Hid (S.length ≤ k) ∧ Hid (S ++ firstL (N.drop k) u = firstL N n0) ∧ Hid (Spans wr w1.heap.size s S) ∧ Hid (Below w1.heap.size w1 wr)) (fun i _ _ _ => m - (intOf i).toNat)
  case atStart => exact ⟨0, n0, [], Nat.zero_le _, rfl, rfl, n00, n09, Lib.hid (Nat.le_refl _), Lib.hid rfl, Z0, A0⟩
  case round =>
    clear A0 Z0
    obtain ⟨k, u, S, hk, rfl, rfl, u0, u9, HS, HF, HO, HB⟩ := hrel
    by_cases hlt : k < m
    · obtain ⟨⟨f, t⟩, hp⟩ : ∃ p, N[k]? = some p := ⟨N[k]'(by rw [← hn.out]; exact hlt), List.getElem?_eq_getElem _⟩
      have hstep := firstL_step hp u
      obtain ⟨g, rfl, hg, q0, q1⟩ := F.out k _ hp
      have k0 := (HB.out.cell (p := ⟨g, _, none⟩) hg).trans q0
      have k1 := (HB.out.cell (p := ⟨g, _, none⟩) hg).trans q1
      have i1 := HI.out _ (List.mem_of_getElem? hp)
      have i2 := HC.out.at hp
      dsimp only at k0 k1 i1 i2
      have hs9 := HS.out
      have B3 := Lib.hid (HB.out.alloc HB.out.size (.cells #[.int .i64 f, .int .i64 t] 49))
      replace hp := Lib.hid hp
      clear q0 q1
      by_cases hu : u < 1
      · have e : Hid (firstL N n0 = S) := Lib.hid (by rw [← HF.out, hstep, if_pos hu]; simp)
        clear HF hstep
        have d1 : decide (u < 1) = true := decide_eq_true hu
        have O3 := Lib.hid (own_below HO.out (new_block (.cells #[.int .i64 f, .int .i64 t] 49)))
        go_wp2_with fail
        go_ret
        exact ⟨⟨_, N, I.out, HL.out, rfl, by rw [e.out]; exact own_mono O3.out hw1⟩, B1.out.trans (B3.out.mono hw1)⟩
      · have d1 : decide (u < 1) = false := decide_eq_false hu
        obtain ⟨T, hT⟩ : ∃ T, T = t % 18446744073709551616 := ⟨_, rfl⟩
        obtain ⟨Fw, hFw⟩ : ∃ Fw, Fw = f % 18446744073709551616 := ⟨_, rfl⟩
        have v1 : IntKind.u64.wrap t = T := by rw [hT]; simp [IntKind.wrap, IntKind.bits, IntKind.signed]
        have v2 : IntKind.u64.wrap f = Fw := by rw [hFw]; simp [IntKind.wrap, IntKind.bits, IntKind.signed]
        have v3 : IntKind.u64.wrap (T - Fw) = t - f := by simp [IntKind.wrap, IntKind.bits, IntKind.signed]; omega
        clear hT hFw
        have v4 : IntKind.u64.wrap u = u := by simp [IntKind.wrap, IntKind.bits, IntKind.signed]; omega
        by_cases hd : u < t - f
        · have e : Hid (firstL N n0 = S ++ [(f, f + u)]) := Lib.hid (by rw [← HF.out, hstep, if_neg hu, if_pos hd])
          clear HF hstep
          have d2 : decide (u < t - f) = true := decide_eq_true hd
          have v5 : IntKind.i64.wrap (f + u) = f + u := IntWalk.i64_in _ (by omega)
          have one : Hid (∀ x ∈ [Value.int .i64 f, .int .i64 (f + u)], x.oneCell' = true) := Lib.hid (by simp; exact ⟨rfl, rfl⟩)
          have O3 := Lib.hid (own_below (own_below HO.out (new_block (.cells #[.int .i64 f, .int .i64 t] 49))) (new_block (.cells #[.int .i64 f, .int .i64 (f + u)] 49)))
          have hb3 : Hid (((wr.alloc (.cells #[.int .i64 f, .int .i64 t] 49)).alloc (.cells #[.int .i64 f, .int .i64 (f + u)] 49)).heap[wr.heap.size + 1]? = some (.cells #[.int .i64 f, .int .i64 (f + u)] 49 (0, 0))) := Lib.hid (by simpa using heap_alloc_new (wr.alloc (.cells #[.int .i64 f, .int .i64 t] 49)) (.cells #[.int .i64 f, .int .i64 (f + u)] 49))
          have B4 := Lib.hid (B3.out.alloc B3.out.size (.cells #[.int .i64 f, .int .i64 (f + u)] 49))
          have hB3 := Lib.hid B4.out.size
          go_wp2_with (at_builtin; refine wpList_append_lies _ rfl (.tmp 29) (.tmp 37) 23 rfl w1.heap.size 49 i0 (.agg #[.int .i64 0, .int .i64 0]) 2 16 Try.underlying23 hi hz0 hz1 hz2 rfl (by decide) _ S.length (cells2 S) rfl O3.out ⟨wr.heap.size + 1, 0, none⟩ 1 1 [.int .i64 f, .int .i64 (f + u)] rfl rfl (World.news_of_block hb3.out) one.out (by decide) (by unfold maxLen; omega) (by omega) hB3.out _ rfl ?_; intro gq cq w5 O2 G2 hg2 hl2)
          have O5 : Hid (Spans w5 w.heap.size (.slice (some ⟨gq, 0, none⟩) (S.length + 1) cq) (firstL N n0)) := Lib.hid (by rw [e.out]; refine own_mono (B := w1.heap.size) ?_ hw1; rw [cells2_snoc]; simpa using O2)
          have B5 := Lib.hid (B1.out.trans ((B4.out.grown G2 hB3.out (fun k hk => (O3.out.lt k hk).1)).mono hw1))
          clear O2 G2 hg2 hl2
          go_ret
          exact ⟨⟨_, N, I.out, HL.out, rfl, O5.out⟩, B5.out⟩
        · have e : Hid ((S ++ [(f, t)]) ++ firstL (N.drop (k + 1)) (u - (t - f)) = firstL N n0) := Lib.hid (by rw [← HF.out, hstep, if_neg hu, if_neg hd]; simp)
          clear HF hstep
          have d2 : decide (u < t - f) = false := decide_eq_false hd
          have v6 : IntKind.i64.wrap (t - f) = t - f := IntWalk.i64_in _ (by omega)
          have v7 : IntKind.i64.wrap (u - (t - f)) = u - (t - f) := IntWalk.i64_in _ (by omega)
          have one : Hid (∀ x ∈ [Value.int .i64 f, .int .i64 t], x.oneCell' = true) := Lib.hid (by simp; exact ⟨rfl, rfl⟩)
          have O3 := Lib.hid (own_below (own_below HO.out (new_block (.cells #[.int .i64 f, .int .i64 t] 49))) (new_block (.cells #[.int .i64 f, .int .i64 (t)] 49)))
          have hb3 : Hid (((wr.alloc (.cells #[.int .i64 f, .int .i64 t] 49)).alloc (.cells #[.int .i64 f, .int .i64 (t)] 49)).heap[wr.heap.size + 1]? = some (.cells #[.int .i64 f, .int .i64 (t)] 49 (0, 0))) := Lib.hid (by simpa using heap_alloc_new (wr.alloc (.cells #[.int .i64 f, .int .i64 t] 49)) (.cells #[.int .i64 f, .int .i64 (t)] 49))
          have B4 := Lib.hid (B3.out.alloc B3.out.size (.cells #[.int .i64 f, .int .i64 (t)] 49))
          have hB3 := Lib.hid B4.out.size
          go_wp2_with (at_builtin; refine wpList_append_lies _ rfl (.tmp 39) (.tmp 41) 23 rfl w1.heap.size 49 i0 (.agg #[.int .i64 0, .int .i64 0]) 2 16 Try.underlying23 hi hz0 hz1 hz2 rfl (by decide) _ S.length (cells2 S) rfl O3.out ⟨wr.heap.size + 1, 0, none⟩ 1 1 [.int .i64 f, .int .i64 (t)] rfl rfl (World.news_of_block hb3.out) one.out (by decide) (by unfold maxLen; omega) (by omega) hB3.out _ rfl ?_; intro gq cq w5 O2 G2 hg2 hl2)
          have B5 := Lib.hid (B4.out.grown G2 hB3.out (fun k hk => (O3.out.lt k hk).1))
          have O5 : Hid (Spans w5 w1.heap.size (.slice (some ⟨gq, 0, none⟩) (S.length + 1) cq) (S ++ [(f, t)])) := Lib.hid (by unfold Spans; rw [cells2_snoc]; simpa using O2)
          clear O2 G2 hg2 hl2 O3 hb3 B4 hB3 one
          go_wp2_with fail
          go_roundw
          case rel => exact ⟨k + 1, u - (t - f), S ++ [(f, t)], by omega, by go_num, rfl, by omega, by omega, Lib.hid (by simp; omega), e, O5, B5⟩
          case measure => simp [intOf]; omega
    · obtain rfl : k = m := by omega
      have e : Hid (firstL N n0 = S) := Lib.hid (by rw [← HF.out, List.drop_of_length_le (by rw [hn.out]; exact Nat.le_refl _)]; simp [firstL])
      go_wp2_with fail
      go_ret
      exact ⟨⟨_, N, I.out, HL.out, rfl, by rw [e.out]; exact own_mono HO.out hw1⟩, B1.out.trans (HB.out.mono hw1)⟩
set_option maxHeartbeats 2000000 in
theorem length_now {w : World} {v : Value} {L N0 : LP} (h : Itw w v L) (hN : Is N0 (hasB L)) (hI : ¬ Near N0) (h9 : L.length ≤ 500) :
    Calls Try.prog 35 #[v] w fun e w' => e = .returned (.tuple #[.int .i64 0, .bool false]) ∧ Below w.heap.size w w' := by
  have C1 := Lib.hid (normal_anyw h h9)
  replace hN := Lib.hid hN
  replace hI := Lib.hid hI
  clear h
  go_enter Try.func35, Try.ntmps35
  go_wp2_with fail
  refine C1.out.mono ?_
  rintro e w1 ⟨⟨r, N, rfl, O, I, hl⟩, b1⟩
  obtain rfl := Is.unique I hN.out
  have C2 := Lib.hid (isNear_no (its_of_own O) I.canon hI.out (by omega))
  have B1 := Lib.hid b1
  obtain ⟨ra, rc, rfl⟩ : ∃ a c, r = .slice a N.length c := by obtain ⟨a, c, e, _⟩ := its_form (its_of_own O); exact ⟨a, c, e⟩
  clear O I b1 C1 hl
  go_wp2_with fail
  refine C2.out.mono ?_
  rintro e w2 ⟨rfl, b2⟩
  go_wp2_with fail
  go_ret2
  exact ⟨rfl, Buf.then_ B1.out b2⟩
set_option maxHeartbeats 2000000 in
theorem shift_now {w : World} {v : Value} {L N0 : LP} (d : Int) (h : Itw w v L) (hN : Is N0 (hasB L)) (hI : ¬ Near N0 ∨ d < -1152921504606846976 ∨ 1152921504606846976 < d) (h9 : L.length ≤ 500) :
    Calls Try.prog 33 #[v, .int .i64 d] w fun e w' => e = .returned (.tuple #[.slice none 0 0, .int .i64 2]) ∧ Below w.heap.size w w' := by
  have C1 := Lib.hid (normal_anyw h h9)
  replace hN := Lib.hid hN
  clear h
  by_cases c1 : d < -1152921504606846976
  · have d1 : decide (d < -1152921504606846976) = true := decide_eq_true c1
    clear hI
    go_enter Try.func33, Try.ntmps33
    go_wp2_with fail
    refine C1.out.mono ?_
    rintro e w1 ⟨⟨r, N, rfl, O, I, hl⟩, b1⟩
    go_wp2_with fail
    go_ret2
    exact ⟨rfl, b1⟩
  · have d1 : decide (d < -1152921504606846976) = false := decide_eq_false c1
    by_cases c2 : 1152921504606846976 < d
    · have d2 : decide (1152921504606846976 < d) = true := decide_eq_true c2
      clear hI
      go_enter Try.func33, Try.ntmps33
      go_wp2_with fail
      refine C1.out.mono ?_
      rintro e w1 ⟨⟨r, N, rfl, O, I, hl⟩, b1⟩
      go_wp2_with fail
      go_ret2
      exact ⟨rfl, b1⟩
    · have d2 : decide (1152921504606846976 < d) = false := decide_eq_false c2
      replace hI : ¬ Near N0 := by rcases hI with h | h | h; exact h; exact absurd h c1; exact absurd h c2
      replace hI := Lib.hid hI
      go_enter Try.func33, Try.ntmps33
      go_wp2_with fail
      refine C1.out.mono ?_
      rintro e w1 ⟨⟨r, N, rfl, O, I, hl⟩, b1⟩
      obtain rfl := Is.unique I hN.out
      have C2 := Lib.hid (isNear_no (its_of_own O) I.canon hI.out (by omega))
      have B1 := Lib.hid b1
      obtain ⟨ra, rc, rfl⟩ : ∃ a c, r = .slice a N.length c := by obtain ⟨a, c, e, _⟩ := its_form (its_of_own O); exact ⟨a, c, e⟩
      clear O I b1 C1 hl
      go_wp2_with fail
      refine C2.out.mono ?_
      rintro e w2 ⟨rfl, b2⟩
      go_wp2_with fail
      go_ret2
      exact ⟨rfl, Buf.then_ B1.out b2⟩
set_option maxRecDepth 100000 in
set_option maxHeartbeats 4000000 in
theorem length_nearw {w : World} {v : Value} {L N0 : LP} (h : Itw w v L) (hN0 : Is N0 (hasB L)) (hI : Near N0) (h9 : L.length ≤ 500) :
    Calls Try.prog 35 #[v] w fun e w' => (∃ N, Is N (hasB L) ∧ e = .returned (.tuple #[.int .i64 (lenL N), .bool true])) ∧ Below w.heap.size w w' := by
  have C1 := Lib.hid (normal_anyw h h9)
  replace hI := Lib.hid hI
  replace hN0 := Lib.hid hN0
  clear h
  go_enter Try.func35, Try.ntmps35
  go_wp2_with fail
  refine C1.out.mono ?_
  rintro e w1 ⟨⟨r, N, rfl, O, I, hl⟩, b1⟩
  have HI := Lib.hid (show Inside N (-1152921504606846976) 1152921504606846976 from by rw [Is.unique I hN0.out]; exact hI.out)
  have HC := Lib.hid I.canon
  have C2 := Lib.hid (isNear_yes (its_of_own O) HI.out (by omega))
  obtain ⟨ad, c, rfl, hc, hf⟩ := its_form (its_of_own O)
  obtain ⟨n, hn⟩ : ∃ n, n = N.length := ⟨_, rfl⟩
  rw [← hn] at hc hl C2 ⊢
  replace hn := Lib.hid hn
  have hn9 : n ≤ 500 := by omega
  have F := Lib.hid hf
  have B1 := Lib.hid b1
  replace I := Lib.hid I
  clear O hf b1 C1 hl h9
  go_wp2_with fail
  refine C2.out.mono ?_
  rintro e w2 ⟨rfl, b2⟩
  have F2 : Hid (∀ (k : Nat) (p : Int × Int), N[k]? = some p → ∃ g, ad = some ⟨g, 0, none⟩ ∧ g < w2.heap.size ∧ w2.cell? ⟨g, k * 2, none⟩ = some (.int .i64 p.1) ∧ w2.cell? ⟨g, k * 2 + 1, none⟩ = some (.int .i64 p.2)) := Lib.hid fun k p hp => by
    obtain ⟨g, e, h1, h2, h3⟩ := F.out k p hp
    exact ⟨g, e, Nat.lt_of_lt_of_le h1 b2.size, (b2.cell (p := ⟨g, _, none⟩) h1).trans h2, (b2.cell (p := ⟨g, _, none⟩) h1).trans h3⟩
  have B2 := Lib.hid (Buf.then_ B1.out b2)
  have hw2 := B2.out.size
  have A0 := Lib.hid (Below.refl w2.heap.size w2)
  clear F B1 b2 C2
  go_wp2_with fail
  go_loopw [15, 5] (fun i s wr => ∃ (k : Nat) (u : Int), k ≤ n ∧ i = .int .i64 k ∧ s = .int .i64 u ∧ Hid (u = lenL (N.take k)) ∧ Hid (Below w2.heap.size w2 wr)) (fun i _ _ => n - (intOf i).toNat)
  case atStart => exact ⟨0, 0, Nat.zero_le _, rfl, rfl, Lib.hid rfl, A0⟩
  case round =>
    clear A0
    obtain ⟨k, u, hk, rfl, rfl, HU, HB⟩ := hrel
    by_cases hlt : k < n
    · obtain ⟨⟨f, t⟩, hp⟩ : ∃ p, N[k]? = some p := ⟨N[k]'(by rw [← hn.out]; exact hlt), List.getElem?_eq_getElem _⟩
      obtain ⟨g, rfl, hg, q0, q1⟩ := F2.out k _ hp
      have k0 := (HB.out.cell (p := ⟨g, _, none⟩) hg).trans q0
      have k1 := (HB.out.cell (p := ⟨g, _, none⟩) hg).trans q1
      dsimp only at k0 k1
      obtain ⟨s1, s2⟩ := step_wraps HC.out HI.out hp
      rw [← HU.out] at s2
      obtain ⟨u2, hu2⟩ : ∃ u2, u2 = lenL (N.take (k + 1)) := ⟨_, rfl⟩
      obtain ⟨d, hd⟩ : ∃ d, d = t - f := ⟨_, rfl⟩
      rw [← hu2] at s2
      rw [← hd] at s1 s2
      replace hu2 := Lib.hid hu2
      have s1' : IntKind.i64.wrap (t - f) = d := by rw [← hd]; exact s1
      have B3 := Lib.hid (HB.out.alloc HB.out.size (.cells #[.int .i64 f, .int .i64 t] 49))
      replace hp := Lib.hid hp
      replace hd := Lib.hid hd
      clear q0 q1 HU s1
      go_wp2_with fail
      go_roundw
      case rel => exact ⟨k + 1, u2, by omega, by go_num, rfl, hu2, B3⟩
      case measure => simp [intOf]; omega
    · obtain rfl : k = n := by omega
      have e : Hid (u = lenL N) := Lib.hid (by rw [HU.out, take_all N k (by rw [hn.out]; exact Nat.le_refl _)])
      go_wp2_with fail
      go_ret2
      exact ⟨⟨N, I.out, by rw [e.out]; rfl⟩, B2.out.trans (HB.out.mono hw2)⟩
set_option maxRecDepth 100000 in
set_option maxHeartbeats 4000000 in
theorem shift_nearw {w : World} {v : Value} {L N0 : LP} (d : Int) (h : Itw w v L) (hN0 : Is N0 (hasB L)) (hI : Near N0) (h9 : L.length ≤ 500) (d0 : -1152921504606846976 ≤ d) (d1 : d ≤ 1152921504606846976) :
    Calls Try.prog 33 #[v, .int .i64 d] w fun e w' => (∃ r N, Is N (hasB L) ∧ N.length ≤ L.length ∧ e = .returned (.tuple #[r, .int .i64 0]) ∧ Spans w' w.heap.size r (moveL N d)) ∧ Below w.heap.size w w' := by
  have C1 := Lib.hid (normal_anyw h h9)
  replace hI := Lib.hid hI
  replace hN0 := Lib.hid hN0
  clear h
  go_enter Try.func33, Try.ntmps33
  go_wp2_with fail
  refine C1.out.mono ?_
  rintro e w1 ⟨⟨r, N, rfl, O, I, hl⟩, b1⟩
  have HI := Lib.hid (show Inside N (-1152921504606846976) 1152921504606846976 from by rw [Is.unique I hN0.out]; exact hI.out)
  have HC := Lib.hid I.canon
  have C2 := Lib.hid (isNear_yes (its_of_own O) HI.out (by omega))
  have HL := Lib.hid hl
  have hn9 : N.length ≤ 500 := by omega
  have B1 := Lib.hid b1
  have hsh := own_shape O
  have HO := Lib.hid O
  replace I := Lib.hid I
  clear O b1 C1 hl
  rcases hsh with ⟨rfl, hn⟩ | ⟨g, c, rfl, hc, hg⟩
  · obtain rfl : N = [] := List.length_eq_zero_iff.1 hn
    go_wp2_with fail
    refine C2.out.mono ?_
    rintro e w2 ⟨rfl, b2⟩
    have B2 := Lib.hid (Buf.then_ B1.out b2)
    have O2 : Hid (Spans w2 w.heap.size (.slice none 0 0) (moveL [] d)) := Lib.hid (World.ownsRow_nil _ _ _ _)
    go_wp2_with fail
    go_loop [23, 7] (fun i _ => i = .int .i64 0) (fun _ _ => 0)
    case atStart => rfl
    case round =>
      subst hrel
      go_wp2_with fail
      go_ret2
      exact ⟨⟨_, [], I.out, HL.out, rfl, O2.out⟩, B2.out⟩
  · obtain ⟨n, hn⟩ : ∃ n, n = N.length := ⟨_, rfl⟩
    have hgB := (HO.out.lt g rfl).1
    rw [← hn] at hc hn9 HO C2 ⊢
    replace hn := Lib.hid hn
    go_wp2_with fail
    refine C2.out.mono ?_
    rintro e w2 ⟨rfl, b2⟩
    have B2 := Lib.hid (Buf.then_ B1.out b2)
    have O2 : Hid (w2.ownsRow w.heap.size 49 2 (.slice (some ⟨g, 0, none⟩) n c) n (cells2 (partL N d 0))) := Lib.hid (own_below (by have := HO.out; unfold Spans at this; rw [← hn.out] at this; simpa [partL, moveL] using this) b2)
    clear HO b2 B1 C2
    go_wp2_with fail
    go_loopw [23, 7] (fun i _ wr => ∃ k : Nat, k ≤ n ∧ i = .int .i64 k ∧ Hid (wr.ownsRow w.heap.size 49 2 (.slice (some ⟨g, 0, none⟩) n c) n (cells2 (partL N d k))) ∧ Hid (Below w.heap.size w wr)) (fun i _ _ => n - (intOf i).toNat)
    case atStart => exact ⟨0, Nat.zero_le _, rfl, O2, B2⟩
    case round =>
      clear O2 B2
      obtain ⟨k, hk, rfl, HO, HB⟩ := hrel
      by_cases hlt : k < n
      · obtain ⟨⟨f, t⟩, hp⟩ : ∃ p, N[k]? = some p := ⟨N[k]'(by rw [← hn.out]; exact hlt), List.getElem?_eq_getElem _⟩
        obtain ⟨p1, p2, p3⟩ := partL_at (d := d) hp
        have i1 := HI.out _ (List.mem_of_getElem? hp)
        have i2 := HC.out.at hp
        dsimp only at i1 i2
        have o1 := HO.out
        rw [p1] at o1
        obtain ⟨k0, k1⟩ := cells_at o1 k p3 hlt
        have o2 := store_from (f + d) o1 k p3
        have o3 := store_to (t + d) o2 k p3
        rw [← p2] at o3
        obtain ⟨j0, j1⟩ := cells_at o2 k p3 hlt
        have z1 := World.ownsRow.frozenAt o1 (k * 2)
        have z2 := World.ownsRow.frozenAt o2 (k * 2 + 1)
        have w1 : IntKind.i64.wrap (f + d) = f + d := IntWalk.i64_in _ (by omega)
        have w2 : IntKind.i64.wrap (t + d) = t + d := IntWalk.i64_in _ (by omega)
        have O3 := Lib.hid o3
        have B3 := Lib.hid ((HB.out.setCell (p := ⟨g, k * 2, none⟩) hgB (.int .i64 (f + d))).setCell (p := ⟨g, k * 2 + 1, none⟩) hgB (.int .i64 (t + d)))
        have b1 : (k : Int) < n := by omega
        replace hp := Lib.hid hp
        clear o1 o2 o3 p1 p2 p3 HO HB
        go_wp2_with fail
        exact ⟨⟨k + 1, by omega, by go_num, O3, B3⟩, by simp [intOf]; omega⟩
      · obtain rfl : k = n := by omega
        have e : Hid (partL N d k = moveL N d) := Lib.hid (by unfold partL; rw [take_all N k (by rw [hn.out]; exact Nat.le_refl _), List.drop_of_length_le (by rw [hn.out]; exact Nat.le_refl _)]; simp)
        have O4 : Hid (Spans wr w.heap.size (.slice (some ⟨g, 0, none⟩) k c) (moveL N d)) := Lib.hid (by have := HO.out; rw [e.out] at this; unfold Spans; rw [moveL_length, ← hn.out]; exact this)
        go_wp2_with fail
        go_ret2
        exact ⟨⟨_, N, I.out, HL.out, rfl, O4.out⟩, HB.out⟩
end Spn
end Go.Proofs.Ytfmhfhggogjbkaa
