/- span.Union. -/
import Derived.Test.YtfmhfhggogjbkaaSpnC
import Derived.OwnWalk
set_option linter.unusedVariables false
set_option linter.unusedSimpArgs false
namespace Go.Proofs.Ytfmhfhggogjbkaa
open Go.RowKit Dice
namespace Spn
open Sp (cells2 cells2_snoc cells2_get Spans own_kept own_below own_mono own_shape)
/-- A list as a slice whose address is a letter. -/
theorem its_form {w : World} {v : Value} {L : LP} (h : Its w v L) : ∃ ad c, v = .slice ad L.length c ∧ L.length ≤ c ∧ ∀ (k : Nat) (p : Int × Int), L[k]? = some p → ∃ g, ad = some ⟨g, 0, none⟩ ∧ g < w.heap.size ∧ w.cell? ⟨g, k * 2, none⟩ = some (.int .i64 p.1) ∧ w.cell? ⟨g, k * 2 + 1, none⟩ = some (.int .i64 p.2) := by
  rcases h with ⟨rfl, rfl⟩ | ⟨g, c, rfl, hc, hg, h⟩
  · exact ⟨none, 0, rfl, Nat.le_refl _, fun k p hp => by simp at hp⟩
  · exact ⟨_, c, rfl, hc, fun k p hp => ⟨g, rfl, hg, h k p hp⟩⟩
/-- Two lists walked side by side: i of the one and k of the other are in the set. -/
structure Un (A B : LP) (i k : Nat) (N : LP) : Prop where
  is : Is N (fun x => hasB (A.take i) x || hasB (B.take k) x)
  len : N.length ≤ i + k
  left : ∀ q, A[i]? = some q → Le N q.1
  right : ∀ q, B[k]? = some q → Le N q.1
theorem Un.start (A B : LP) : Un A B 0 0 [] := ⟨Is.nil (by simp [hasB]), Nat.le_refl _, fun _ _ => Le.nil _, fun _ _ => Le.nil _⟩
theorem Un.swap {A B : LP} {i k : Nat} {N : LP} (h : Un A B i k N) : Un B A k i N := ⟨h.is.congr fun x => Bool.or_comm _ _, by have := h.len; omega, h.right, h.left⟩
theorem Un.step {A B : LP} {i k : Nat} {N : LP} (hA : Canon A) (h : Un A B i k N) {p : Int × Int} (hp : A[i]? = some p) (hq : ∀ q, B[k]? = some q → p.1 ≤ q.1) : Un A B (i + 1) k (addL N p) := by
  have hl := h.left p hp
  have A3 := addL_spec h.is.canon hl
  refine ⟨(h.is.add hl).congr fun x => ?_, by have := A3.2.2.2; have := h.len; omega, fun q hq' => A3.2.2.1.mono ?_, fun q hq' => A3.2.2.1.mono (hq q hq')⟩
  · rw [take_succ_has A i p hp]
    cases hasB (A.take i) x <;> cases hasB (B.take k) x <;> cases decide (p.1 ≤ x ∧ x < p.2) <;> rfl
  · have := hA.get (Nat.lt_succ_self i) hp hq'
    have := hA.at hp
    omega
theorem Un.stop {A B : LP} {i k : Nat} {N : LP} (h : Un A B i k N) (hi : A.length ≤ i) (hk : B.length ≤ k) : Is N (fun x => hasB A x || hasB B x) := by
  have := h.is
  rwa [take_all A i hi, take_all B k hk] at this
set_option maxRecDepth 100000 in
set_option maxHeartbeats 4000000 in
theorem union_any {w : World} {va vb : Value} {A B : LP} (ha : Its w va A) (hb : Its w vb B) (h9a : A.length ≤ 200) (h9b : B.length ≤ 200) :
    Calls Try.prog 16 #[va, vb] w fun e w' => (∃ r N, e = .returned r ∧ Spans w' w.heap.size r N ∧ Is N (fun x => hasB A x || hasB B x) ∧ N.length ≤ A.length + B.length) ∧ Below w.heap.size w w' := by
  obtain ⟨i0, hi, hz0, hz1, hz2⟩ := info_get infoS
  have C1 := Lib.hid (normal_any ha (by omega))
  replace hb := Lib.hid hb
  clear ha
  go_enter Try.func16, Try.ntmps16
  go_wp2_with fail
  refine C1.out.mono ?_
  rintro e w1 ⟨⟨ra, Na, rfl, Oa, Ia, la⟩, b1⟩
  have C2 := Lib.hid (normal_any (hb.out.keep b1) (by omega))
  go_wp2_with fail
  refine C2.out.mono ?_
  rintro e w2 ⟨⟨rb, Nb, rfl, Ob, Ib, lb⟩, b2⟩
  have hw1 : w.heap.size ≤ w1.heap.size := b1.size
  have hw2 : w1.heap.size ≤ w2.heap.size := b2.size
  have W2 := Lib.hid (Buf.then_ b1 b2)
  obtain ⟨ad, c, rfl, hc, fa⟩ := its_form (its_of_own (own_below Oa b2))
  obtain ⟨ad', c', rfl, hc', fb⟩ := its_form (its_of_own Ob)
  obtain ⟨n, hn⟩ : ∃ n, n = Na.length := ⟨_, rfl⟩
  obtain ⟨m, hm⟩ : ∃ m, m = Nb.length := ⟨_, rfl⟩
  rw [← hn] at hc la ⊢
  rw [← hm] at hc' lb ⊢
  have hn9 : n ≤ 200 := by omega
  have hm9 : m ≤ 200 := by omega
  have FA := Lib.hid fa
  have FB := Lib.hid fb
  have HA := Lib.hid Ia
  have HBb := Lib.hid Ib
  have LA := Lib.hid la
  have LB := Lib.hid lb
  have mk1 : Hid (i0.bytes * (n + m) ≤ 281474976710656) := Lib.hid (by rw [hz2]; omega)
  have mk2 : Hid (n + m ≤ maxLen) := Lib.hid (by unfold maxLen; omega)
  replace hn := Lib.hid hn
  replace hm := Lib.hid hm
  clear Oa Ob b1 b2 fa fb Ia Ib la lb C1 C2 hb
  go_wp2_with (refine wpList_make_own _ rfl _ _ 23 rfl w2.heap.size 49 i0 (.agg #[.int .i64 0, .int .i64 0]) 2 Try.underlying23 hi hz0 hz1 .i64 .i64 _ (n + m) rfl rfl (by push_cast; omega) mk1.out mk2.out (Nat.le_refl _) ?_; intro w3 O3 G3)
  have B3 : Hid (Below w2.heap.size w2 w3) := Lib.hid ((Below.refl _ _).grown G3 (Nat.le_refl _) (fun k hk => by cases hk))
  replace O3 : Hid (Spans w3 w2.heap.size (.slice (some ⟨w2.heap.size, 0, none⟩) 0 (n + m)) []) := Lib.hid O3
  clear G3
  go_loopw [5, 6, 7] (fun s si sk wr => ∃ (i k : Nat) (N : LP), i ≤ n ∧ k ≤ m ∧ si = .int .i64 i ∧ sk = .int .i64 k ∧ Hid (Spans wr w2.heap.size s N) ∧ Hid (Un Na Nb i k N) ∧ Hid (Below w2.heap.size w2 wr)) (fun _ si sk _ => (n - (intOf si).toNat) + (m - (intOf sk).toNat))
  case atStart => exact ⟨0, 0, [], Nat.zero_le _, Nat.zero_le _, rfl, rfl, O3, Lib.hid (Un.start _ _), B3⟩
  case round =>
    clear O3 B3
    obtain ⟨i, k, N, hi9, hk9, rfl, rfl, HO, HU, HB⟩ := hrel
    have goA : ∀ f t g, Na[i]? = some (f, t) → ad = some ⟨g, 0, none⟩ → g < w2.heap.size ∧ wr.cell? ⟨g, i * 2, none⟩ = some (.int .i64 f) ∧ wr.cell? ⟨g, i * 2 + 1, none⟩ = some (.int .i64 t) := fun f t g hp he => by
      obtain ⟨g', e, h1, h2, h3⟩ := FA.out i _ hp
      rw [he] at e; cases e
      exact ⟨h1, (HB.out.cell (p := ⟨g, _, none⟩) h1).trans h2, (HB.out.cell (p := ⟨g, _, none⟩) h1).trans h3⟩
    have goB : ∀ f t g, Nb[k]? = some (f, t) → ad' = some ⟨g, 0, none⟩ → g < w2.heap.size ∧ wr.cell? ⟨g, k * 2, none⟩ = some (.int .i64 f) ∧ wr.cell? ⟨g, k * 2 + 1, none⟩ = some (.int .i64 t) := fun f t g hp he => by
      obtain ⟨g', e, h1, h2, h3⟩ := FB.out k _ hp
      rw [he] at e; cases e
      exact ⟨h1, (HB.out.cell (p := ⟨g, _, none⟩) h1).trans h2, (HB.out.cell (p := ⟨g, _, none⟩) h1).trans h3⟩
    have hlen := HU.out.len
    by_cases hin : i < n
    · obtain ⟨⟨f, t⟩, hp⟩ : ∃ p, Na[i]? = some p := ⟨Na[i]'(by rw [← hn.out]; exact hin), List.getElem?_eq_getElem _⟩
      obtain ⟨g, rfl, _, _, _⟩ := FA.out i _ hp
      obtain ⟨hg, k0, k1⟩ := goA f t g hp rfl
      have C := fun q => add_any f t (own_below HO.out (Buf.below_drewN (Below.refl _ wr) q)) HB.out.size (by omega)
      replace C := Lib.hid C
      have bi : (i : Int) < n := by omega
      by_cases hkm : k < m
      · obtain ⟨⟨f2, t2⟩, hp2⟩ : ∃ p, Nb[k]? = some p := ⟨Nb[k]'(by rw [← hm.out]; exact hkm), List.getElem?_eq_getElem _⟩
        obtain ⟨g2, rfl, _, _, _⟩ := FB.out k _ hp2
        obtain ⟨hg2, j0, j1⟩ := goB f2 t2 g2 hp2 rfl
        have C' := fun q => add_any f2 t2 (own_below HO.out (Buf.below_drewN (Below.refl _ wr) q)) HB.out.size (by omega)
        replace C' := Lib.hid C'
        have bk : (k : Int) < m := by omega
        have d1 : ((k : Int) == (m : Int)) = false := by simp; omega
        have d1' : decide ((k : Int) = (m : Int)) = false := by simp; omega
        have d1'' : decide (k = m) = false := by simp; omega
        have d2 : decide (i < n) = true := decide_eq_true hin
        by_cases hle : f ≤ f2
        · have U := Lib.hid (HU.out.step HA.out.canon hp (fun q hq => by rw [hp2] at hq; cases hq; exact hle))
          have d3 : decide (f ≤ f2) = true := decide_eq_true hle
          clear goA goB HU C'
          replace hp := Lib.hid hp
          replace hp2 := Lib.hid hp2
          go_wp2_with fail
          go_quiet (fail)
          go_wp2_with fail
          refine (C.out _).mono ?_
          rintro e w4 ⟨⟨s', rfl, O4, hk4⟩, G4⟩
          have B4 := Lib.hid ((Buf.below_drewN HB.out _).grown G4 HB.out.size (fun k hk => (HO.out.lt k hk).1))
          clear HB HO
          go_wp2_with fail
          go_roundw
          case rel => exact ⟨i + 1, k, _, by omega, by omega, by go_num, by go_num, Lib.hid O4, U, B4⟩
          case measure => simp [intOf]; omega
        · have U := Lib.hid (Un.swap (HU.out.swap.step HBb.out.canon hp2 (fun q hq => by rw [hp] at hq; cases hq; show f2 ≤ f; omega)))
          have d3 : decide (f ≤ f2) = false := decide_eq_false hle
          clear goA goB HU C
          replace hp := Lib.hid hp
          replace hp2 := Lib.hid hp2
          go_wp2_with fail
          go_quiet (fail)
          go_wp2_with fail
          refine (C'.out _).mono ?_
          rintro e w4 ⟨⟨s', rfl, O4, hk4⟩, G4⟩
          have B4 := Lib.hid ((Buf.below_drewN HB.out _).grown G4 HB.out.size (fun k hk => (HO.out.lt k hk).1))
          clear HB HO
          go_wp2_with fail
          go_roundw
          case rel => exact ⟨i, k + 1, _, by omega, by omega, by go_num, by go_num, Lib.hid O4, U, B4⟩
          case measure => simp [intOf]; omega
      · obtain rfl : k = m := by omega
        have U := Lib.hid (HU.out.step HA.out.canon hp (fun q hq => by have := (List.getElem?_eq_some_iff.1 hq).1; rw [← hm.out] at this; omega))
        have d2 : decide (i < n) = true := decide_eq_true hin
        clear goA goB HU
        replace hp := Lib.hid hp
        go_wp2_with fail
        go_quiet (fail)
        go_wp2_with fail
        refine (C.out _).mono ?_
        rintro e w4 ⟨⟨s', rfl, O4, hk4⟩, G4⟩
        have B4 := Lib.hid ((Buf.below_drewN HB.out _).grown G4 HB.out.size (fun k hk => (HO.out.lt k hk).1))
        clear HB HO
        go_wp2_with fail
        go_roundw
        case rel => exact ⟨i + 1, k, _, by omega, by omega, by go_num, by go_num, Lib.hid O4, U, B4⟩
        case measure => simp [intOf]; omega
    · obtain rfl : i = n := by omega
      by_cases hkm : k < m
      · obtain ⟨⟨f2, t2⟩, hp2⟩ : ∃ p, Nb[k]? = some p := ⟨Nb[k]'(by rw [← hm.out]; exact hkm), List.getElem?_eq_getElem _⟩
        obtain ⟨g2, rfl, _, _, _⟩ := FB.out k _ hp2
        obtain ⟨hg2, j0, j1⟩ := goB f2 t2 g2 hp2 rfl
        have C' := fun q => add_any f2 t2 (own_below HO.out (Buf.below_drewN (Below.refl _ wr) q)) HB.out.size (by omega)
        replace C' := Lib.hid C'
        have bk : (k : Int) < m := by omega
        have d1 : ((k : Int) == (m : Int)) = false := by simp; omega
        have d1' : decide ((k : Int) = (m : Int)) = false := by simp; omega
        have d1'' : decide (k = m) = false := by simp; omega
        have U := Lib.hid (Un.swap (HU.out.swap.step HBb.out.canon hp2 (fun q hq => by have := (List.getElem?_eq_some_iff.1 hq).1; rw [← hn.out] at this; omega)))
        clear goA goB HU
        replace hp2 := Lib.hid hp2
        go_wp2_with fail
        go_quiet (fail)
        go_wp2_with fail
        refine (C'.out _).mono ?_
        rintro e w4 ⟨⟨s', rfl, O4, hk4⟩, G4⟩
        have B4 := Lib.hid ((Buf.below_drewN HB.out _).grown G4 HB.out.size (fun k hk => (HO.out.lt k hk).1))
        clear HB HO
        go_wp2_with fail
        go_roundw
        case rel => exact ⟨i, k + 1, _, by omega, by omega, by go_num, by go_num, Lib.hid O4, U, B4⟩
        case measure => simp [intOf]; omega
      · obtain rfl : k = m := by omega
        have U := Lib.hid (HU.out.stop (by rw [hn.out]; exact Nat.le_refl _) (by rw [hm.out]; exact Nat.le_refl _))
        clear goA goB
        go_wp2_with fail
        go_ret
        refine ⟨⟨_, N, rfl, own_mono HO.out (Nat.le_trans hw1 hw2), U.out.congr fun x => by rw [HA.out.has, HBb.out.has], ?_⟩, W2.out.trans (HB.out.mono (Nat.le_trans hw1 hw2))⟩
        have := LA.out
        have := LB.out
        omega
end Spn
end Go.Proofs.Ytfmhfhggogjbkaa
