/- span.Minus. -/
import Derived.Test.YtfmhfhggogjbkaaSpnD
set_option linter.unusedVariables false
set_option linter.unusedSimpArgs false
namespace Go.Proofs.Ytfmhfhggogjbkaa
open Go.RowKit Dice
namespace Spn
open Sp (cells2 cells2_snoc cells2_get Spans own_kept own_below own_mono own_shape)
structure Mi (A B : LP) (i k : Nat) (N : LP) : Prop where
  is : Is N (fun x => hasB (A.take i) x && !hasB B x)
  bef : ∀ (j : Nat) (r p : Int × Int), j < k → B[j]? = some r → A[i]? = some p → r.2 ≤ p.1
  le : ∀ p, A[i]? = some p → Le N p.1
  len : N.length ≤ k + 2 * i
structure Mj (A B : LP) (i k : Nat) (lo f t : Int) (N : LP) : Prop where
  is : Is N (minusF A B i lo f)
  bef : ∀ (j : Nat) (r : Int × Int), j < k → B[j]? = some r → r.2 ≤ f
  lo : lo ≤ f
  lt : f < t
  le : Le N f
  len : N.length ≤ k + 2 * i
theorem Mi.start (A B : LP) : Mi A B 0 0 [] := ⟨Is.nil (by simp [hasB]), fun j _ _ h => absurd h (Nat.not_lt_zero j), fun _ _ => Le.nil _, Nat.zero_le _⟩
theorem Mj.start {A B N : LP} {i k0 k : Nat} {lo t : Int} (h : Mi A B i k0 N) (hp : A[i]? = some (lo, t)) (hk : k0 ≤ k) (hb : ∀ (j : Nat) (r : Int × Int), j < k → B[j]? = some r → r.2 ≤ lo) (hlt : lo < t) : Mj A B i k lo lo t N :=
  ⟨h.is.congr fun x => (minus_next A B i lo x).symm, hb, Int.le_refl _, hlt, h.le _ hp, by have := h.len; omega⟩
theorem Mj.next {A B N : LP} {i k : Nat} {lo f t : Int} (h : Mj A B i k lo f t N) (hB : Canon B) {q : Int × Int} (hq : B[k]? = some q) (hlt : max f q.2 < t) : Mj A B i (k + 1) lo (max f q.2) t (addL N (f, q.1)) := by
  have A3 := addL_spec h.is.canon (s := (f, q.1)) h.le
  refine ⟨(h.is.add (s := (f, q.1)) h.le).congr fun x => (minus_step hB hq h.bef h.lo x).symm, fun j r hj hr => ?_, by have := h.lo; omega, hlt, A3.2.2.1.mono (by show f ≤ _; omega), by have := A3.2.2.2; have := h.len; omega⟩
  by_cases e : j = k
  · subst e; rw [hq] at hr; cases hr; omega
  · have := h.bef j r (by omega) hr; omega
theorem Mj.over {A B N : LP} {i k : Nat} {lo f t : Int} (h : Mj A B i k lo f t N) (hA : Canon A) (hB : Canon B) {q : Int × Int} (hp : A[i]? = some (lo, t)) (hq : B[k]? = some q) (h1 : q.1 < t) (h2 : t ≤ max f q.2) : Mi A B (i + 1) k (addL (addL N (f, q.1)) (max f q.2, t)) := by
  have A3 := addL_spec h.is.canon (s := (f, q.1)) h.le
  have h3 := h.lt
  rw [addL_no _ (max f q.2, t) h2]
  refine ⟨(h.is.add (s := (f, q.1)) h.le).congr fun x => (minus_over hB hp hq h.bef h.lo (by omega) h1 (by omega) x).symm, fun j r p hj hr hp' => ?_, fun p hp' => A3.2.2.1.mono ?_, by have := A3.2.2.2; have := h.len; omega⟩
  · have a1 := h.bef j r hj hr
    have a2 := hA.get (Nat.lt_succ_self i) hp hp'
    dsimp only at a2
    omega
  · have a2 := hA.get (Nat.lt_succ_self i) hp hp'
    dsimp only at a2 ⊢
    omega
theorem Mj.rest {A B N : LP} {i k : Nat} {lo f t : Int} (h : Mj A B i k lo f t N) (hA : Canon A) (hB : Canon B) (hp : A[i]? = some (lo, t)) (hn : ∀ q, B[k]? = some q → t ≤ q.1) : Mi A B (i + 1) k (addL N (f, t)) := by
  have A3 := addL_spec h.is.canon (s := (f, t)) h.le
  have h3 := h.lt
  refine ⟨(h.is.add (s := (f, t)) h.le).congr fun x => (minus_rest hB hp h.bef h.lo (by omega) hn x).symm, fun j r p hj hr hp' => ?_, fun p hp' => A3.2.2.1.mono ?_, by have := A3.2.2.2; have := h.len; omega⟩
  · have a1 := h.bef j r hj hr
    have a2 := hA.get (Nat.lt_succ_self i) hp hp'
    dsimp only at a2
    omega
  · have a2 := hA.get (Nat.lt_succ_self i) hp hp'
    dsimp only at a2 ⊢
    omega
theorem Mi.stop {A B : LP} {i k : Nat} {N : LP} (h : Mi A B i k N) (hi : A.length ≤ i) : Is N (fun x => hasB A x && !hasB B x) := by
  have := h.is
  rwa [take_all A i hi] at this
theorem own_set {w : World} {B g8 o : Nat} {v : Value} {L : LP} (h : Spans w B v L) (hne : v.ownBlock ≠ some g8) (u : Value) : Spans (w.setCell ⟨g8, o, none⟩ u) B v L :=
  own_kept h fun k hk => Below.heap_setCell w ⟨g8, o, none⟩ u k (fun e => hne (by rw [hk]; exact congrArg some e))
theorem box_set {w : World} {g8 : Nat} {f t u : Value} {T : TypeId} (h : w.heap[g8]? = some (.cells #[f, t] T (0, 0))) : (w.setCell ⟨g8, 0, none⟩ u).heap[g8]? = some (.cells #[u, t] T (0, 0)) := by
  rw [heap_setCell_same w g8 0 _ T u h]; rfl
set_option maxRecDepth 100000 in
set_option maxHeartbeats 8000000 in
theorem minus_any {w : World} {va vb : Value} {A B : LP} (ha : Its w va A) (hb : Its w vb B) (h9a : A.length ≤ 100) (h9b : B.length ≤ 100) :
    Calls Try.prog 20 #[va, vb] w fun e w' => (∃ r N, e = .returned r ∧ Spans w' w.heap.size r N ∧ Is N (fun x => hasB A x && !hasB B x) ∧ N.length ≤ B.length + 2 * A.length) ∧ Below w.heap.size w w' := by
  have C1 := Lib.hid (normal_any ha (by omega))
  replace hb := Lib.hid hb
  clear ha
  go_enter Try.func20, Try.ntmps20
  go_wp2_with fail
  refine C1.out.mono ?_
  rintro e w1 ⟨⟨ra, Na, rfl, Oa, Ia, la⟩, b1⟩
  have C2 := Lib.hid (normal_any (hb.out.keep b1) (by omega))
  go_wp2_with fail
  refine C2.out.mono ?_
  rintro e w2 ⟨⟨rb, Nb, rfl, Ob, Ib, lb⟩, b2⟩
  have hw1 : w.heap.size ≤ w1.heap.size := b1.size
  have hw2 : w1.heap.size ≤ w2.heap.size := b2.size
  have W2 := Lib.hid (Buf.then_ b1 b2)
  obtain ⟨ad, c, rfl, hc, fa⟩ := its_form (its_of_own (own_below Oa b2))
  obtain ⟨ad', c', rfl, hc', fb⟩ := its_form (its_of_own Ob)
  obtain ⟨n, hn⟩ : ∃ n, n = Na.length := ⟨_, rfl⟩
  obtain ⟨m, hm⟩ : ∃ m, m = Nb.length := ⟨_, rfl⟩
  rw [← hn] at hc la ⊢
  rw [← hm] at hc' lb ⊢
  have hn9 : n ≤ 100 := by omega
  have hm9 : m ≤ 100 := by omega
  have FA := Lib.hid fa
  have FB := Lib.hid fb
  have HA := Lib.hid Ia
  have HBb := Lib.hid Ib
  have LA := Lib.hid la
  have LB := Lib.hid lb
  obtain ⟨g2, hg2⟩ : ∃ g2, ∀ (k : Nat) (p : Int × Int), Nb[k]? = some p → ad' = some ⟨g2, 0, none⟩ := by
    cases ad' with
    | none => exact ⟨0, fun k p hp => by obtain ⟨g, e, _⟩ := fb k p hp; cases e⟩
    | some a => exact ⟨a.block, fun k p hp => by obtain ⟨g, e, _⟩ := fb k p hp; cases e; rfl⟩
  replace hg2 := Lib.hid hg2
  replace hn := Lib.hid hn
  replace hm := Lib.hid hm
  have B3 : Hid (Below w2.heap.size w2 w2) := Lib.hid (Below.refl _ _)
  have O3 : Hid (Spans w2 w2.heap.size (.slice none 0 0) []) := Lib.hid (World.ownsRow_nil _ _ _ _)
  clear Oa Ob b1 b2 fa fb Ia Ib la lb C1 C2 hb
  go_wp2_with fail
  go_loopw [15, 5, 6] (fun si s sk wr => ∃ (i k : Nat) (N : LP), i ≤ n ∧ k ≤ m ∧ si = .int .i64 i ∧ sk = .int .i64 k ∧ Hid (Spans wr w2.heap.size s N) ∧ Hid (Mi Na Nb i k N) ∧ Hid (Below w2.heap.size w2 wr)) (fun si _ _ _ => n - (intOf si).toNat)
  case atStart => exact ⟨0, 0, [], Nat.zero_le _, Nat.zero_le _, rfl, rfl, O3, Lib.hid (Mi.start _ _), B3⟩
  case round =>
    clear O3 B3

    obtain ⟨i, k0, N, hi9, hk9, rfl, rfl, HO, HU, HB⟩ := hrel
    have hlen0 := HU.out.len
    obtain ⟨wo, hwo⟩ : ∃ wo, wo = wr := ⟨_, rfl⟩
    rw [← hwo] at HO HB ⊢
    clear hwo wr
    by_cases hin : i < n
    · obtain ⟨⟨lo, t⟩, hp⟩ : ∃ p, Na[i]? = some p := ⟨Na[i]'(by rw [← hn.out]; exact hin), List.getElem?_eq_getElem _⟩
      obtain ⟨g, rfl, hg, a0, a1⟩ := FA.out i _ hp
      have k1 := (HB.out.cell (p := ⟨g, _, none⟩) hg).trans a0
      have k2 := (HB.out.cell (p := ⟨g, _, none⟩) hg).trans a1
      have hlt := HA.out.canon.at hp
      have hmb := Lib.hid fun (j : Nat) (r : Int × Int) (hj : j < k0) (hr : Nb[j]? = some r) => HU.out.bef j r _ hj hr hp
      dsimp only at k1 k2 hlt
      have bi : (i : Int) < n := by omega
      obtain ⟨w8, hw8⟩ : ∃ w8, w8 = wo.alloc (.cells #[.int .i64 lo, .int .i64 t] 49) := ⟨_, rfl⟩
      have B8 := Lib.hid (show Below w2.heap.size w2 w8 by rw [hw8]; exact HB.out.alloc HB.out.size _)
      have X8 := Lib.hid (show w8.heap[wo.heap.size]? = some (.cells #[.int .i64 lo, .int .i64 t] 49 (0, 0)) by rw [hw8]; exact heap_alloc_new wo _)
      have O8 := Lib.hid (show Spans w8 w2.heap.size u5 N by rw [hw8]; exact own_below HO.out (new_block _))
      have N8 : Hid (u5.ownBlock ≠ some wo.heap.size) := Lib.hid fun e => by have := (HO.out.lt _ e).2; omega
      have g8 : Hid (w2.heap.size ≤ wo.heap.size) := Lib.hid HB.out.size
      replace hp := Lib.hid hp
      clear a0 a1
      go_upto_region 7 with fail
      rw [← hw8]
      clear hw8
      have A8 := Lib.hid (Below.refl w8.heap.size w8)
      go_loopw [6] (fun sk wr => ∃ k : Nat, k0 ≤ k ∧ k ≤ m ∧ sk = .int .i64 k ∧ Hid (∀ (j : Nat) (r : Int × Int), j < k → Nb[j]? = some r → r.2 ≤ lo) ∧ Hid (Below w8.heap.size w8 wr)) (fun sk _ => m - (intOf sk).toNat)
      case atStart => exact ⟨k0, Nat.le_refl _, hk9, rfl, hmb, A8⟩
      case round =>
        clear A8 hmb
        obtain ⟨k, hk0, hk9', rfl, BEF, WA⟩ := hrel
        obtain ⟨x0, x1⟩ := c2 (hop WA.out X8.out)
        by_cases hkm : k < m
        · obtain ⟨⟨f2, t2⟩, hp2⟩ : ∃ p, Nb[k]? = some p := ⟨Nb[k]'(by rw [← hm.out]; exact hkm), List.getElem?_eq_getElem _⟩
          cases hg2.out k _ hp2
          obtain ⟨g', e', hgg, b0, b1⟩ := FB.out k _ hp2
          cases e'
          have j1 := ((B8.out.trans (WA.out.mono B8.out.size)).cell (p := ⟨g2, _, none⟩) hgg).trans b1
          dsimp only at j1
          have bk : (k : Int) < m := by omega
          clear b0 b1
          by_cases hle : t2 ≤ lo
          · have d1 : decide (t2 ≤ lo) = true := decide_eq_true hle
            have BEF' : Hid (∀ (j : Nat) (r : Int × Int), j < k + 1 → Nb[j]? = some r → r.2 ≤ lo) := Lib.hid fun j r hj hr => by
              by_cases e : j = k
              · subst e; rw [hp2] at hr; cases hr; exact hle
              · exact BEF.out j r (by omega) hr
            replace hp2 := Lib.hid hp2
            clear BEF
            go_wp2_with fail
            go_quiet (fail)
            go_wp2_with fail
            go_roundw
            case rel => exact ⟨k + 1, by omega, by omega, by go_num, BEF', Lib.hid (Buf.below_drewN WA.out _)⟩
            case measure => simp [intOf]; omega
          · have d1 : decide (t2 ≤ lo) = false := decide_eq_false hle
            replace hp2 := Lib.hid hp2
            go_wp2_with fail
            go_quiet (fail)
            go_wp2_with fail
            replace WA := Lib.hid (Buf.below_drewN WA.out nq)
            generalize wr.drewN nq = wr at *
            clear hle d1 x0 x1 j1 hp2
            have J0 := Lib.hid (Mj.start HU.out hp.out hk0 BEF.out hlt)
            have OA := Lib.hid (own_below O8.out (show Below w8.heap.size w8 wr from WA.out))
            have XA := Lib.hid (hop WA.out X8.out)
            have BA := Lib.hid (B8.out.trans (WA.out.mono B8.out.size))
            clear BEF WA
            go_loopw [5, 6] (fun s sk wr => ∃ (f : Int) (k : Nat) (N : LP), k ≤ m ∧ sk = .int .i64 k ∧ Hid (Spans wr w2.heap.size s N) ∧ Hid (s.ownBlock ≠ some wo.heap.size) ∧ Hid (wr.heap[wo.heap.size]? = some (.cells #[.int .i64 f, .int .i64 t] 49 (0, 0))) ∧ Hid (Mj Na Nb i k lo f t N) ∧ Hid (Below w2.heap.size w2 wr)) (fun _ sk _ => m - (intOf sk).toNat)
            case atStart => exact ⟨lo, k, N, by omega, rfl, OA, N8, XA, J0, BA⟩
            case round =>
              clear J0 OA XA BA hk0 hk9'
              try clear bk
              try clear d0
              clear hkm
              obtain ⟨f, k, N', hk9', rfl, HO', HN, HX, HJ, HB'⟩ := hrel
              have hl := HJ.out.len
              obtain ⟨x0, x1⟩ := c2 HX.out
              have hft := HJ.out.lt
              have hsz : wo.heap.size < wr.heap.size := (Array.getElem?_eq_some_iff.1 HX.out).1
              by_cases hkm : k < m
              · obtain ⟨⟨f2, t2⟩, hp2⟩ : ∃ p, Nb[k]? = some p := ⟨Nb[k]'(by rw [← hm.out]; exact hkm), List.getElem?_eq_getElem _⟩
                cases hg2.out k _ hp2
                obtain ⟨g', e', hgg, b0, b1⟩ := FB.out k _ hp2
                cases e'
                have V : Hid (∀ w', Below w2.heap.size w2 w' → w'.cell? ⟨g2, k * 2, none⟩ = some (.int .i64 f2) ∧ w'.cell? ⟨g2, k * 2 + 1, none⟩ = some (.int .i64 t2)) := Lib.hid fun w' h => ⟨(h.cell (p := ⟨g2, _, none⟩) hgg).trans b0, (h.cell (p := ⟨g2, _, none⟩) hgg).trans b1⟩
                obtain ⟨j0, j1⟩ := V.out _ HB'.out
                have bk : (k : Int) < m := by omega
                clear b0 b1
                by_cases hb1 : f2 < t
                · have d1 : decide (f2 < t) = true := decide_eq_true hb1
                  go_wp2_with fail
                  go_quiet (fail)
                  go_wp2_with fail
                  obtain ⟨wq, hwq⟩ : ∃ wq, wq = wr.drewN nq := ⟨_, rfl⟩
                  have Bq := Lib.hid (show Below w2.heap.size w2 wq by rw [hwq]; exact Buf.below_drewN HB'.out nq)
                  have Oq := Lib.hid (show Spans wq w2.heap.size u5 N' by rw [hwq]; exact own_below HO'.out (Buf.below_drewN (Below.refl _ wr) nq))
                  have Xq := Lib.hid (show wq.heap[wo.heap.size]? = some (.cells #[.int .i64 f, .int .i64 t] 49 (0, 0)) by rw [hwq]; exact HX.out)
                  rw [← hwq]
                  clear hwq x0 x1 j0 j1 HB' HO' HX
                  have CD := Lib.hid (add_any f f2 (own_below Oq.out (Below.refl wq.heap.size wq).drew) Bq.out.size (by omega))
                  have VD : wq.drew.cell? ⟨wo.heap.size, 0, none⟩ = some (.int .i64 f) ∧ wq.drew.cell? ⟨g2, k * 2, none⟩ = some (.int .i64 f2) := ⟨(c2 Xq.out).1, (V.out _ Bq.out).1⟩
                  go_region_held3 (fun w' => w'.cell? ⟨wo.heap.size, 0, none⟩ = some (.int .i64 f) ∧ w'.cell? ⟨g2, k * 2, none⟩ = some (.int .i64 f2)) (first | (with_reducible exact VD) | (with_reducible exact ⟨q0, q1⟩))
                    ((first
                      | (go_at_call 56; (with_reducible refine CD.out.mono ?_); rintro e w4 ⟨⟨s', rfl, O4, hk4⟩, G4⟩; have X4 := Lib.hid ((G4.block wo.heap.size (Array.getElem?_eq_some_iff.1 Xq.out).1 (fun e => HN.out e.symm)).trans Xq.out); have B4 := Lib.hid (Bq.out.drew.grown G4 Bq.out.size (fun k hk => (Oq.out.lt k hk).1)); have q0 := (c2 X4.out).1; have q1 := (V.out _ B4.out).1)))
                  have N4 : Hid (s'.ownBlock ≠ some wo.heap.size) := Lib.hid fun e => by
                    rcases hk4 _ e with h | h
                    · exact HN.out h
                    · have h2 := (Array.getElem?_eq_some_iff.1 Xq.out).1
                      have h3 : wq.drew.heap.size = wq.heap.size := rfl
                      omega
                  have x0 := (c2 X4.out).1
                  have j1 := (V.out _ B4.out).2
                  have z0 := frozen_of_row w4 wo.heap.size 0 _ _ X4.out
                  replace O4 := Lib.hid O4
                  clear VD CD Oq Bq Xq G4 q0 q1 hk4
                  go_wp2_with fail
                  go_region
                  obtain ⟨w5, hw5⟩ : ∃ w5, w5 = (w4.setCell ⟨wo.heap.size, 0, none⟩ (.int .i64 (max f t2))).drew := ⟨_, rfl⟩
                  have B5 := Lib.hid (show Below w2.heap.size w2 w5 by rw [hw5]; exact (B4.out.setCell (p := ⟨wo.heap.size, 0, none⟩) g8.out _).drew)
                  have O5 := Lib.hid (show Spans w5 w2.heap.size s' (addL N' (f, f2)) by rw [hw5]; exact own_set O4.out N4.out _)
                  have X5 := Lib.hid (show w5.heap[wo.heap.size]? = some (.cells #[.int .i64 (max f t2), .int .i64 t] 49 (0, 0)) by rw [hw5]; exact box_set X4.out)
                  rw [← hw5]
                  clear hw5 O4 X4 B4 x0 j1 z0
                  have hl5 : (addL N' (f, f2)).length ≤ 400 := by have := (addL_spec HJ.out.is.canon (s := (f, f2)) HJ.out.le).2.2.2; omega
                  by_cases hov : t ≤ max f t2
                  · have U := Lib.hid (HJ.out.over HA.out.canon HBb.out.canon hp.out hp2 hb1 hov)
                    have d2 : decide (t ≤ max f t2) = true := decide_eq_true hov
                    have CF := Lib.hid (add_any (max f t2) t O5.out B5.out.size (by omega))
                    obtain ⟨F, hF⟩ : ∃ F, F = max f t2 := ⟨_, rfl⟩
                    rw [← hF] at X5 d2 CF U ⊢
                    obtain ⟨x0, x1⟩ := c2 X5.out
                    replace hF := Lib.hid hF
                    clear hov
                    go_wp2_with fail
                    refine (CF.out).mono ?_
                    rintro e w9 ⟨⟨s9, rfl, O9, hk9⟩, G9⟩
                    have B9 := Lib.hid (B5.out.grown G9 B5.out.size (fun k hk => (O5.out.lt k hk).1))
                    go_wp2_with fail
                    go_roundw
                    case rel => exact ⟨i + 1, k, _, by omega, by omega, by go_num, rfl, Lib.hid O9, U, B9⟩
                    case measure => simp [intOf]; omega
                  · have J' := Lib.hid (HJ.out.next HBb.out.canon hp2 (show max f t2 < t by omega))
                    have d2 : decide (t ≤ max f t2) = false := decide_eq_false hov
                    obtain ⟨F, hF⟩ : ∃ F, F = max f t2 := ⟨_, rfl⟩
                    have J2 : Hid (Mj Na Nb i (k + 1) lo F t (addL N' (f, f2))) := Lib.hid (by rw [hF]; exact J'.out)
                    rw [← hF] at X5 d2 ⊢
                    obtain ⟨x0, x1⟩ := c2 X5.out
                    replace hF := Lib.hid hF
                    clear hov J'
                    go_wp2_with fail
                    go_roundw
                    case rel => exact ⟨F, k + 1, _, by omega, by go_num, O5, N4, X5, J2, B5⟩
                    case measure => simp [intOf]; omega
                · have hb2 : t ≤ f2 := by omega
                  have d1 : decide (f2 < t) = false := decide_eq_false hb1
                  have U := Lib.hid (HJ.out.rest HA.out.canon HBb.out.canon hp.out (fun q hq => by rw [hp2] at hq; cases hq; exact hb2))
                  have CF := Lib.hid fun q => add_any f t (own_below HO'.out (Buf.below_drewN (Below.refl _ wr) q)) HB'.out.size (by omega)
                  have BF := Lib.hid HB'.out
                  go_wp2_with fail
                  go_quiet (fail)
                  go_wp2_with fail
                  refine (CF.out _).mono ?_
                  rintro e w9 ⟨⟨s9, rfl, O9, hk9⟩, G9⟩
                  have B9 := Lib.hid ((Lib.hid (Buf.below_drewN HB'.out _)).out.grown G9 (Lib.hid (Buf.below_drewN HB'.out _)).out.size (fun k hk => (HO'.out.lt k hk).1))
                  go_wp2_with fail
                  go_roundw
                  case rel => exact ⟨i + 1, k, _, by omega, by omega, by go_num, rfl, Lib.hid O9, U, B9⟩
                  case measure => simp [intOf]; omega
              · have d0 : decide (k < m) = false := decide_eq_false hkm
                have hkm' : m ≤ k := by omega
                have U := Lib.hid (HJ.out.rest HA.out.canon HBb.out.canon hp.out (fun q hq => by have := (List.getElem?_eq_some_iff.1 hq).1; rw [← hm.out] at this; omega))
                have CF := Lib.hid fun q => add_any f t (own_below HO'.out (Buf.below_drewN (Below.refl _ wr) q)) HB'.out.size (by omega)
                go_wp2_with fail
                go_quiet (fail)
                go_wp2_with fail
                refine (CF.out _).mono ?_
                rintro e w9 ⟨⟨s9, rfl, O9, hk9⟩, G9⟩
                have B9 := Lib.hid ((Lib.hid (Buf.below_drewN HB'.out _)).out.grown G9 (Lib.hid (Buf.below_drewN HB'.out _)).out.size (fun k hk => (HO'.out.lt k hk).1))
                go_wp2_with fail
                go_roundw
                case rel => exact ⟨i + 1, k, _, by omega, by omega, by go_num, rfl, Lib.hid O9, U, B9⟩
                case measure => simp [intOf]; omega
        · have d0 : decide (k < m) = false := decide_eq_false hkm
          have hkm' : m ≤ k := by omega
          go_wp2_with fail
          go_quiet (fail)
          go_wp2_with fail
          replace WA := Lib.hid (Buf.below_drewN WA.out nq)
          generalize wr.drewN nq = wr at *
          clear x0 x1 hkm'
          have J0 := Lib.hid (Mj.start HU.out hp.out hk0 BEF.out hlt)
          have OA := Lib.hid (own_below O8.out (show Below w8.heap.size w8 wr from WA.out))
          have XA := Lib.hid (hop WA.out X8.out)
          have BA := Lib.hid (B8.out.trans (WA.out.mono B8.out.size))
          clear BEF WA
          go_loopw [5, 6] (fun s sk wr => ∃ (f : Int) (k : Nat) (N : LP), k ≤ m ∧ sk = .int .i64 k ∧ Hid (Spans wr w2.heap.size s N) ∧ Hid (s.ownBlock ≠ some wo.heap.size) ∧ Hid (wr.heap[wo.heap.size]? = some (.cells #[.int .i64 f, .int .i64 t] 49 (0, 0))) ∧ Hid (Mj Na Nb i k lo f t N) ∧ Hid (Below w2.heap.size w2 wr)) (fun _ sk _ => m - (intOf sk).toNat)
          case atStart => exact ⟨lo, k, N, by omega, rfl, OA, N8, XA, J0, BA⟩
          case round =>
            clear J0 OA XA BA hk0 hk9'
            try clear bk
            try clear d0
            clear hkm
            obtain ⟨f, k, N', hk9', rfl, HO', HN, HX, HJ, HB'⟩ := hrel
            have hl := HJ.out.len
            obtain ⟨x0, x1⟩ := c2 HX.out
            have hft := HJ.out.lt
            have hsz : wo.heap.size < wr.heap.size := (Array.getElem?_eq_some_iff.1 HX.out).1
            by_cases hkm : k < m
            · obtain ⟨⟨f2, t2⟩, hp2⟩ : ∃ p, Nb[k]? = some p := ⟨Nb[k]'(by rw [← hm.out]; exact hkm), List.getElem?_eq_getElem _⟩
              cases hg2.out k _ hp2
              obtain ⟨g', e', hgg, b0, b1⟩ := FB.out k _ hp2
              cases e'
              have V : Hid (∀ w', Below w2.heap.size w2 w' → w'.cell? ⟨g2, k * 2, none⟩ = some (.int .i64 f2) ∧ w'.cell? ⟨g2, k * 2 + 1, none⟩ = some (.int .i64 t2)) := Lib.hid fun w' h => ⟨(h.cell (p := ⟨g2, _, none⟩) hgg).trans b0, (h.cell (p := ⟨g2, _, none⟩) hgg).trans b1⟩
              obtain ⟨j0, j1⟩ := V.out _ HB'.out
              have bk : (k : Int) < m := by omega
              clear b0 b1
              by_cases hb1 : f2 < t
              · have d1 : decide (f2 < t) = true := decide_eq_true hb1
                go_wp2_with fail
                go_quiet (fail)
                go_wp2_with fail
                obtain ⟨wq, hwq⟩ : ∃ wq, wq = wr.drewN nq := ⟨_, rfl⟩
                have Bq := Lib.hid (show Below w2.heap.size w2 wq by rw [hwq]; exact Buf.below_drewN HB'.out nq)
                have Oq := Lib.hid (show Spans wq w2.heap.size u5 N' by rw [hwq]; exact own_below HO'.out (Buf.below_drewN (Below.refl _ wr) nq))
                have Xq := Lib.hid (show wq.heap[wo.heap.size]? = some (.cells #[.int .i64 f, .int .i64 t] 49 (0, 0)) by rw [hwq]; exact HX.out)
                rw [← hwq]
                clear hwq x0 x1 j0 j1 HB' HO' HX
                have CD := Lib.hid (add_any f f2 (own_below Oq.out (Below.refl wq.heap.size wq).drew) Bq.out.size (by omega))
                have VD : wq.drew.cell? ⟨wo.heap.size, 0, none⟩ = some (.int .i64 f) ∧ wq.drew.cell? ⟨g2, k * 2, none⟩ = some (.int .i64 f2) := ⟨(c2 Xq.out).1, (V.out _ Bq.out).1⟩
                go_region_held3 (fun w' => w'.cell? ⟨wo.heap.size, 0, none⟩ = some (.int .i64 f) ∧ w'.cell? ⟨g2, k * 2, none⟩ = some (.int .i64 f2)) (first | (with_reducible exact VD) | (with_reducible exact ⟨q0, q1⟩))
                  ((first
                    | (go_at_call 56; (with_reducible refine CD.out.mono ?_); rintro e w4 ⟨⟨s', rfl, O4, hk4⟩, G4⟩; have X4 := Lib.hid ((G4.block wo.heap.size (Array.getElem?_eq_some_iff.1 Xq.out).1 (fun e => HN.out e.symm)).trans Xq.out); have B4 := Lib.hid (Bq.out.drew.grown G4 Bq.out.size (fun k hk => (Oq.out.lt k hk).1)); have q0 := (c2 X4.out).1; have q1 := (V.out _ B4.out).1)))
                have N4 : Hid (s'.ownBlock ≠ some wo.heap.size) := Lib.hid fun e => by
                  rcases hk4 _ e with h | h
                  · exact HN.out h
                  · have h2 := (Array.getElem?_eq_some_iff.1 Xq.out).1
                    have h3 : wq.drew.heap.size = wq.heap.size := rfl
                    omega
                have x0 := (c2 X4.out).1
                have j1 := (V.out _ B4.out).2
                have z0 := frozen_of_row w4 wo.heap.size 0 _ _ X4.out
                replace O4 := Lib.hid O4
                clear VD CD Oq Bq Xq G4 q0 q1 hk4
                go_wp2_with fail
                go_region
                obtain ⟨w5, hw5⟩ : ∃ w5, w5 = (w4.setCell ⟨wo.heap.size, 0, none⟩ (.int .i64 (max f t2))).drew := ⟨_, rfl⟩
                have B5 := Lib.hid (show Below w2.heap.size w2 w5 by rw [hw5]; exact (B4.out.setCell (p := ⟨wo.heap.size, 0, none⟩) g8.out _).drew)
                have O5 := Lib.hid (show Spans w5 w2.heap.size s' (addL N' (f, f2)) by rw [hw5]; exact own_set O4.out N4.out _)
                have X5 := Lib.hid (show w5.heap[wo.heap.size]? = some (.cells #[.int .i64 (max f t2), .int .i64 t] 49 (0, 0)) by rw [hw5]; exact box_set X4.out)
                rw [← hw5]
                clear hw5 O4 X4 B4 x0 j1 z0
                have hl5 : (addL N' (f, f2)).length ≤ 400 := by have := (addL_spec HJ.out.is.canon (s := (f, f2)) HJ.out.le).2.2.2; omega
                by_cases hov : t ≤ max f t2
                · have U := Lib.hid (HJ.out.over HA.out.canon HBb.out.canon hp.out hp2 hb1 hov)
                  have d2 : decide (t ≤ max f t2) = true := decide_eq_true hov
                  have CF := Lib.hid (add_any (max f t2) t O5.out B5.out.size (by omega))
                  obtain ⟨F, hF⟩ : ∃ F, F = max f t2 := ⟨_, rfl⟩
                  rw [← hF] at X5 d2 CF U ⊢
                  obtain ⟨x0, x1⟩ := c2 X5.out
                  replace hF := Lib.hid hF
                  clear hov
                  go_wp2_with fail
                  refine (CF.out).mono ?_
                  rintro e w9 ⟨⟨s9, rfl, O9, hk9⟩, G9⟩
                  have B9 := Lib.hid (B5.out.grown G9 B5.out.size (fun k hk => (O5.out.lt k hk).1))
                  go_wp2_with fail
                  go_roundw
                  case rel => exact ⟨i + 1, k, _, by omega, by omega, by go_num, rfl, Lib.hid O9, U, B9⟩
                  case measure => simp [intOf]; omega
                · have J' := Lib.hid (HJ.out.next HBb.out.canon hp2 (show max f t2 < t by omega))
                  have d2 : decide (t ≤ max f t2) = false := decide_eq_false hov
                  obtain ⟨F, hF⟩ : ∃ F, F = max f t2 := ⟨_, rfl⟩
                  have J2 : Hid (Mj Na Nb i (k + 1) lo F t (addL N' (f, f2))) := Lib.hid (by rw [hF]; exact J'.out)
                  rw [← hF] at X5 d2 ⊢
                  obtain ⟨x0, x1⟩ := c2 X5.out
                  replace hF := Lib.hid hF
                  clear hov J'
                  go_wp2_with fail
                  go_roundw
                  case rel => exact ⟨F, k + 1, _, by omega, by go_num, O5, N4, X5, J2, B5⟩
                  case measure => simp [intOf]; omega
              · have hb2 : t ≤ f2 := by omega
                have d1 : decide (f2 < t) = false := decide_eq_false hb1
                have U := Lib.hid (HJ.out.rest HA.out.canon HBb.out.canon hp.out (fun q hq => by rw [hp2] at hq; cases hq; exact hb2))
                have CF := Lib.hid fun q => add_any f t (own_below HO'.out (Buf.below_drewN (Below.refl _ wr) q)) HB'.out.size (by omega)
                have BF := Lib.hid HB'.out
                go_wp2_with fail
                go_quiet (fail)
                go_wp2_with fail
                refine (CF.out _).mono ?_
                rintro e w9 ⟨⟨s9, rfl, O9, hk9⟩, G9⟩
                have B9 := Lib.hid ((Lib.hid (Buf.below_drewN HB'.out _)).out.grown G9 (Lib.hid (Buf.below_drewN HB'.out _)).out.size (fun k hk => (HO'.out.lt k hk).1))
                go_wp2_with fail
                go_roundw
                case rel => exact ⟨i + 1, k, _, by omega, by omega, by go_num, rfl, Lib.hid O9, U, B9⟩
                case measure => simp [intOf]; omega
            · have d0 : decide (k < m) = false := decide_eq_false hkm
              have hkm' : m ≤ k := by omega
              have U := Lib.hid (HJ.out.rest HA.out.canon HBb.out.canon hp.out (fun q hq => by have := (List.getElem?_eq_some_iff.1 hq).1; rw [← hm.out] at this; omega))
              have CF := Lib.hid fun q => add_any f t (own_below HO'.out (Buf.below_drewN (Below.refl _ wr) q)) HB'.out.size (by omega)
              go_wp2_with fail
              go_quiet (fail)
              go_wp2_with fail
              refine (CF.out _).mono ?_
              rintro e w9 ⟨⟨s9, rfl, O9, hk9⟩, G9⟩
              have B9 := Lib.hid ((Lib.hid (Buf.below_drewN HB'.out _)).out.grown G9 (Lib.hid (Buf.below_drewN HB'.out _)).out.size (fun k hk => (HO'.out.lt k hk).1))
              go_wp2_with fail
              go_roundw
              case rel => exact ⟨i + 1, k, _, by omega, by omega, by go_num, rfl, Lib.hid O9, U, B9⟩
              case measure => simp [intOf]; omega
    · obtain rfl : i = n := by omega
      have U := Lib.hid (HU.out.stop (by rw [hn.out]; exact Nat.le_refl _))
      go_wp2_with fail
      go_ret
      refine ⟨⟨_, N, rfl, own_mono HO.out (Nat.le_trans hw1 hw2), U.out.congr fun x => by rw [HA.out.has, HBb.out.has], ?_⟩, W2.out.trans (HB.out.mono (Nat.le_trans hw1 hw2))⟩
      have := LA.out
      have := LB.out
      omega
end Spn
end Go.Proofs.Ytfmhfhggogjbkaa
