/- span.Meet and span.Cut. -/
import Derived.Test.YtfmhfhggogjbkaaSpnD
set_option linter.unusedVariables false
set_option linter.unusedSimpArgs false
namespace Go.Proofs.Ytfmhfhggogjbkaa
open Go.RowKit Dice
namespace Spn
open Sp (cells2 cells2_snoc cells2_get Spans own_kept own_below own_mono own_shape)
structure Me (A B : LP) (i k : Nat) (N : LP) : Prop where
  is : Is N (meetF A B i k)
  len : N.length ≤ i + k
  ord : ∀ p q, A[i]? = some p → B[k]? = some q → Le N (max p.1 q.1)
theorem Me.start (A B : LP) : Me A B 0 0 [] := ⟨Is.nil (meet_start A B), Nat.le_refl _, fun _ _ _ _ => Le.nil _⟩
theorem Me.left {A B : LP} {i k : Nat} {N : LP} (hA : Canon A) (hB : Canon B) (h : Me A B i k N) {p q : Int × Int} (hp : A[i]? = some p) (hq : B[k]? = some q) (hle : p.2 ≤ q.2) : Me A B (i + 1) k (addL N (max p.1 q.1, min p.2 q.2)) := by
  have hl := h.ord p q hp hq
  have A3 := addL_spec h.is.canon (s := (max p.1 q.1, min p.2 q.2)) hl
  refine ⟨(h.is.add (s := (max p.1 q.1, min p.2 q.2)) hl).congr fun x => (meet_left hB hp hq hle x).symm, by have := A3.2.2.2; have := h.len; omega, fun p' q' hp' hq' => A3.2.2.1.mono ?_⟩
  have := hA.get (Nat.lt_succ_self i) hp hp'
  have := hA.at hp
  rw [hq] at hq'
  cases hq'
  show max p.1 q.1 ≤ max p'.1 q.1
  omega
theorem Me.right {A B : LP} {i k : Nat} {N : LP} (hA : Canon A) (hB : Canon B) (h : Me A B i k N) {p q : Int × Int} (hp : A[i]? = some p) (hq : B[k]? = some q) (hle : q.2 ≤ p.2) : Me A B i (k + 1) (addL N (max p.1 q.1, min p.2 q.2)) := by
  have hl := h.ord p q hp hq
  have A3 := addL_spec h.is.canon (s := (max p.1 q.1, min p.2 q.2)) hl
  refine ⟨(h.is.add (s := (max p.1 q.1, min p.2 q.2)) hl).congr fun x => (meet_right hA hp hq hle x).symm, by have := A3.2.2.2; have := h.len; omega, fun p' q' hp' hq' => A3.2.2.1.mono ?_⟩
  have := hB.get (Nat.lt_succ_self k) hq hq'
  have := hB.at hq
  rw [hp] at hp'
  cases hp'
  show max p.1 q.1 ≤ max p.1 q'.1
  omega
theorem Me.stop {A B : LP} {i k : Nat} {N : LP} (h : Me A B i k N) (hi : A.length ≤ i ∨ B.length ≤ k) : Is N (fun x => hasB A x && hasB B x) := h.is.congr fun x => meet_end hi x
set_option maxRecDepth 100000 in
set_option maxHeartbeats 4000000 in
theorem meet_any {w : World} {va vb : Value} {A B : LP} (ha : Its w va A) (hb : Its w vb B) (h9a : A.length ≤ 200) (h9b : B.length ≤ 200) :
    Calls Try.prog 18 #[va, vb] w fun e w' => (∃ r N, e = .returned r ∧ Spans w' w.heap.size r N ∧ Is N (fun x => hasB A x && hasB B x) ∧ N.length ≤ A.length + B.length) ∧ Below w.heap.size w w' := by
  have C1 := Lib.hid (normal_any ha (by omega))
  replace hb := Lib.hid hb
  clear ha
  go_enter Try.func18, Try.ntmps18
  go_wp2_with fail
  refine C1.out.mono ?_
  rintro e w1 ⟨⟨ra, Na, rfl, Oa, Ia, la⟩, b1⟩
  have C2 := Lib.hid (normal_any (hb.out.keep b1) (by omega))
  go_wp2_with fail
  refine C2.out.mono ?_
  rintro e w2 ⟨⟨rb, Nb, rfl, Ob, Ib, lb⟩, b2⟩
  have hw1 : w.heap.size ≤ w1.heap.size := b1.size
  have hw2 : w1.heap.size ≤ w2.heap.size := b2.size
  have W2 := Lib.hid (Buf.then_ b1 b2)
  obtain ⟨ad, c, rfl, hc, fa⟩ := its_form (its_of_own (own_below Oa b2))
  obtain ⟨ad', c', rfl, hc', fb⟩ := its_form (its_of_own Ob)
  obtain ⟨n, hn⟩ : ∃ n, n = Na.length := ⟨_, rfl⟩
  obtain ⟨m, hm⟩ : ∃ m, m = Nb.length := ⟨_, rfl⟩
  rw [← hn] at hc la ⊢
  rw [← hm] at hc' lb ⊢
  have hn9 : n ≤ 200 := by omega
  have hm9 : m ≤ 200 := by omega
  have FA := Lib.hid fa
  have FB := Lib.hid fb
  have HA := Lib.hid Ia
  have HBb := Lib.hid Ib
  have LA := Lib.hid la
  have LB := Lib.hid lb
  replace hn := Lib.hid hn
  replace hm := Lib.hid hm
  have B3 : Hid (Below w2.heap.size w2 w2) := Lib.hid (Below.refl _ _)
  have O3 : Hid (Spans w2 w2.heap.size (.slice none 0 0) []) := Lib.hid (World.ownsRow_nil _ _ _ _)
  clear Oa Ob b1 b2 fa fb Ia Ib la lb C1 C2 hb
  go_wp2_with fail
  go_loopw [5, 6, 7] (fun s si sk wr => ∃ (i k : Nat) (N : LP), i ≤ n ∧ k ≤ m ∧ si = .int .i64 i ∧ sk = .int .i64 k ∧ Hid (Spans wr w2.heap.size s N) ∧ Hid (Me Na Nb i k N) ∧ Hid (Below w2.heap.size w2 wr)) (fun _ si sk _ => (n - (intOf si).toNat) + (m - (intOf sk).toNat))
  case atStart => exact ⟨0, 0, [], Nat.zero_le _, Nat.zero_le _, rfl, rfl, O3, Lib.hid (Me.start _ _), B3⟩
  case round =>
    clear O3 B3
    obtain ⟨i, k, N, hi9, hk9, rfl, rfl, HO, HU, HB⟩ := hrel
    have hlen := HU.out.len
    by_cases hin : i < n
    · by_cases hkm : k < m
      · obtain ⟨⟨f, t⟩, hp⟩ : ∃ p, Na[i]? = some p := ⟨Na[i]'(by rw [← hn.out]; exact hin), List.getElem?_eq_getElem _⟩
        obtain ⟨g, rfl, hg, a0, a1⟩ := FA.out i _ hp
        obtain ⟨⟨f2, t2⟩, hp2⟩ : ∃ p, Nb[k]? = some p := ⟨Nb[k]'(by rw [← hm.out]; exact hkm), List.getElem?_eq_getElem _⟩
        obtain ⟨g2, rfl, hg2, b0, b1⟩ := FB.out k _ hp2
        have V : Hid (∀ w', Below w2.heap.size w2 w' → w'.cell? ⟨g, i * 2, none⟩ = some (.int .i64 f) ∧ w'.cell? ⟨g, i * 2 + 1, none⟩ = some (.int .i64 t) ∧ w'.cell? ⟨g2, k * 2, none⟩ = some (.int .i64 f2) ∧ w'.cell? ⟨g2, k * 2 + 1, none⟩ = some (.int .i64 t2)) := Lib.hid fun w' h => ⟨(h.cell (p := ⟨g, _, none⟩) hg).trans a0, (h.cell (p := ⟨g, _, none⟩) hg).trans a1, (h.cell (p := ⟨g2, _, none⟩) hg2).trans b0, (h.cell (p := ⟨g2, _, none⟩) hg2).trans b1⟩
        have C := fun q => add_any (max f f2) (min t t2) (own_below HO.out (Buf.below_drewN (Below.refl _ wr) q)) HB.out.size (by omega)
        replace C := Lib.hid C
        have CD := Lib.hid (add_any (max f f2) (min t t2) (own_below HO.out (Below.refl wr.heap.size wr).drew) HB.out.size (by omega))
        have BD := Lib.hid HB.out.drew
        obtain ⟨v1, v2, v3, v4⟩ := V.out _ (Buf.below_drewN HB.out 1)
        have bi : (i : Int) < n := by omega
        have bk : (k : Int) < m := by omega
        have VQ : Hid (∀ q, (wr.drewN q).cell? ⟨g, i * 2, none⟩ = some (.int .i64 f) ∧ (wr.drewN q).cell? ⟨g, i * 2 + 1, none⟩ = some (.int .i64 t) ∧ (wr.drewN q).cell? ⟨g2, k * 2, none⟩ = some (.int .i64 f2) ∧ (wr.drewN q).cell? ⟨g2, k * 2 + 1, none⟩ = some (.int .i64 t2)) := Lib.hid fun q => V.out _ (Buf.below_drewN HB.out q)
        clear a0 a1 b0 b1
        replace hp := Lib.hid hp
        replace hp2 := Lib.hid hp2
        go_wp2_with fail
        have VD : wr.drew.cell? ⟨g, i * 2, none⟩ = some (.int .i64 f) ∧ wr.drew.cell? ⟨g, i * 2 + 1, none⟩ = some (.int .i64 t) ∧ wr.drew.cell? ⟨g2, k * 2, none⟩ = some (.int .i64 f2) ∧ wr.drew.cell? ⟨g2, k * 2 + 1, none⟩ = some (.int .i64 t2) := VQ.out 1
        go_region_held3 (fun w' => w'.cell? ⟨g, i * 2, none⟩ = some (.int .i64 f) ∧ w'.cell? ⟨g, i * 2 + 1, none⟩ = some (.int .i64 t) ∧ w'.cell? ⟨g2, k * 2, none⟩ = some (.int .i64 f2) ∧ w'.cell? ⟨g2, k * 2 + 1, none⟩ = some (.int .i64 t2)) (first | (with_reducible exact VD) | (with_reducible exact VQ.out _) | (with_reducible exact V.out _ (by assumption)))
          ((first
            | (go_at_call 56; (with_reducible refine CD.out.mono ?_); rintro e w4 ⟨⟨s', rfl, O4, hk4⟩, G4⟩; have B4 := Lib.hid (BD.out.grown G4 HB.out.size (fun k hk => (HO.out.lt k hk).1)); have B4' := B4.out)
            | (go_at_call 56; (with_reducible refine (C.out _).mono ?_); rintro e w4 ⟨⟨s', rfl, O4, hk4⟩, G4⟩; have B4 := Lib.hid ((Buf.below_drewN HB.out _).grown G4 HB.out.size (fun k hk => (HO.out.lt k hk).1)); have B4' := B4.out)))
        all_goals
          obtain ⟨v1, v2, v3, v4⟩ := V.out _ B4.out
          clear VD VQ V C CD BD B4'
          by_cases hlt : t < t2
          · have U := Lib.hid (HU.out.left HA.out.canon HBb.out.canon hp.out hp2.out (by show t ≤ t2; omega))
            have d1 : decide (t < t2) = true := decide_eq_true hlt
            clear HU HO HB
            go_wp2_with fail
            go_quiet (fail)
            go_wp2_with fail
            go_roundw
            case rel => exact ⟨i + 1, k, _, by omega, by omega, by go_num, by go_num, Lib.hid (own_below O4 (Buf.below_drewN (Below.refl _ _) _)), U, Lib.hid (Buf.below_drewN B4.out _)⟩
            case measure => simp [intOf]; omega
          · have U := Lib.hid (HU.out.right HA.out.canon HBb.out.canon hp.out hp2.out (by show t2 ≤ t; omega))
            have d1 : decide (t < t2) = false := decide_eq_false hlt
            clear HU HO HB
            go_wp2_with fail
            go_quiet (fail)
            go_wp2_with fail
            go_roundw
            case rel => exact ⟨i, k + 1, _, by omega, by omega, by go_num, by go_num, Lib.hid (own_below O4 (Buf.below_drewN (Below.refl _ _) _)), U, Lib.hid (Buf.below_drewN B4.out _)⟩
            case measure => simp [intOf]; omega
      · obtain rfl : k = m := by omega
        have U := Lib.hid (HU.out.stop (.inr (by rw [hm.out]; exact Nat.le_refl _)))
        go_wp2_with fail
        go_ret
        refine ⟨⟨_, N, rfl, own_mono HO.out (Nat.le_trans hw1 hw2), U.out.congr fun x => by rw [HA.out.has, HBb.out.has], ?_⟩, W2.out.trans (HB.out.mono (Nat.le_trans hw1 hw2))⟩
        have := LA.out
        have := LB.out
        omega
    · obtain rfl : i = n := by omega
      have U := Lib.hid (HU.out.stop (.inl (by rw [hn.out]; exact Nat.le_refl _)))
      go_wp2_with fail
      go_ret
      refine ⟨⟨_, N, rfl, own_mono HO.out (Nat.le_trans hw1 hw2), U.out.congr fun x => by rw [HA.out.has, HBb.out.has], ?_⟩, W2.out.trans (HB.out.mono (Nat.le_trans hw1 hw2))⟩
      have := LA.out
      have := LB.out
      omega
set_option maxHeartbeats 2000000 in
theorem cut_any {w : World} {v : Value} {A : LP} (x y : Int) (h : Its w v A) (h9 : A.length ≤ 199) :
    Calls Try.prog 29 #[v, .int .i64 x, .int .i64 y] w fun e w' => (∃ r N, e = .returned r ∧ Spans w' w.heap.size r N ∧ Is N (fun z => hasB A z && decide (x ≤ z ∧ z < y)) ∧ N.length ≤ A.length + 1) ∧ Below w.heap.size w w' := by
  have H := Lib.hid h
  clear h
  have W1 := Lib.hid (new_block (w := w) (.cells #[.int .i64 x, .int .i64 y] 49))
  have K := c2 (heap_alloc_new w (.cells #[.int .i64 x, .int .i64 y] 49))
  have I2 : Hid (Its (w.alloc (.cells #[.int .i64 x, .int .i64 y] 49)) (.slice (some ⟨w.heap.size, 0, none⟩) 1 1) [(x, y)]) := Lib.hid (.inr ⟨_, 1, rfl, Nat.le_refl _, by simp, fun k p hp => by
    have hk : k = 0 := by have := (List.getElem?_eq_some_iff.1 hp).1; simp at this; omega
    subst hk
    simp at hp
    subst hp
    exact K⟩)
  have C := Lib.hid (meet_any (H.out.keep W1.out) I2.out (by omega) (by simp))
  clear K
  go_enter Try.func29, Try.ntmps29
  go_wp2_with (go_at_call 18; with_reducible refine C.out.mono ?_; rintro e w2 ⟨⟨r, N, rfl, O, I, hl⟩, b⟩)
  go_ret
  exact ⟨⟨_, N, rfl, own_mono O W1.out.size, I.congr fun z => by simp [hasB_cons, hasB_nil], by simpa using hl⟩, Buf.then_ W1.out b⟩
end Spn
end Go.Proofs.Ytfmhfhggogjbkaa
