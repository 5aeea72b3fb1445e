/- detector.scan from any state. -/
import Derived.Test.YtbmcmiggifknfaaDoorDetC
import Derived.Deep.DeepCutAuto
set_option linter.unusedVariables false
set_option linter.unusedSimpArgs false
namespace Go.Proofs.YtbmcmiggifknfaaDoor
open Go.RowKit Wi Dice
namespace Det
/-- What scan does at the sample i, of which se were seen before, with ba samples ahead. -/
def stepG (d : Dt) (V : Nat → Int) (se ba i : Nat) (e : List Tr) (o : Tr) : List Tr × Tr :=
  if i < se ∨ i + 1 < d.L then (e, o)
  else if o.on < 0 then
    if rch d.S d.L (win V d.S i) (win V d.L i) d.on then (e, ⟨(ba : Int) + i, -1, V i⟩) else (e, o)
  else if rch d.S d.L (win V d.S i) (win V d.L i) d.off then (e, ⟨o.on, o.off, max o.pk (V i)⟩)
  else (e ++ [⟨o.on, (ba : Int) + i, o.pk⟩], ⟨-1, 0, 0⟩)
def scg (d : Dt) (V : Nat → Int) (se ba : Nat) (o0 : Tr) : Nat → List Tr × Tr
  | 0 => ([], o0)
  | k + 1 => stepG d V se ba k (scg d V se ba o0 k).1 (scg d V se ba o0 k).2
theorem scg_next {d : Dt} {V : Nat → Int} {se ba k : Nat} {o0 : Tr} {e : List Tr} {o : Tr} (h : scg d V se ba o0 k = (e, o)) : scg d V se ba o0 (k + 1) = stepG d V se ba k e o := by
  show stepG d V se ba k (scg d V se ba o0 k).1 (scg d V se ba o0 k).2 = _
  rw [h]
theorem sg_wait (d : Dt) (V : Nat → Int) (se ba k : Nat) (e : List Tr) (o : Tr) (h : k < se ∨ k + 1 < d.L) : stepG d V se ba k e o = (e, o) := by unfold stepG; rw [if_pos h]
theorem sg_open (d : Dt) (V : Nat → Int) (se ba k : Nat) (e : List Tr) (o : Tr) (h : ¬ (k < se ∨ k + 1 < d.L)) (ho : o.on < 0) (hr : rch d.S d.L (win V d.S k) (win V d.L k) d.on = true) : stepG d V se ba k e o = (e, ⟨(ba : Int) + k, -1, V k⟩) := by unfold stepG; rw [if_neg h, if_pos ho, if_pos hr]
theorem sg_idle (d : Dt) (V : Nat → Int) (se ba k : Nat) (e : List Tr) (o : Tr) (h : ¬ (k < se ∨ k + 1 < d.L)) (ho : o.on < 0) (hr : rch d.S d.L (win V d.S k) (win V d.L k) d.on = false) : stepG d V se ba k e o = (e, o) := by unfold stepG; rw [if_neg h, if_pos ho, if_neg (by rw [hr]; decide)]
theorem sg_peak (d : Dt) (V : Nat → Int) (se ba k : Nat) (e : List Tr) (o : Tr) (h : ¬ (k < se ∨ k + 1 < d.L)) (ho : ¬ o.on < 0) (hr : rch d.S d.L (win V d.S k) (win V d.L k) d.off = true) : stepG d V se ba k e o = (e, ⟨o.on, o.off, max o.pk (V k)⟩) := by unfold stepG; rw [if_neg h, if_neg ho, if_pos hr]
theorem sg_end (d : Dt) (V : Nat → Int) (se ba k : Nat) (e : List Tr) (o : Tr) (h : ¬ (k < se ∨ k + 1 < d.L)) (ho : ¬ o.on < 0) (hr : rch d.S d.L (win V d.S k) (win V d.L k) d.off = false) : stepG d V se ba k e o = (e ++ [⟨o.on, (ba : Int) + k, o.pk⟩], ⟨-1, 0, 0⟩) := by unfold stepG; rw [if_neg h, if_neg ho, if_neg (by rw [hr]; decide)]
set_option maxHeartbeats 8000000 in
set_option maxRecDepth 100000 in
theorem scanG_any {w : World} {se ba : Nat} {on0 off0 pk0 : Int} {u : Value} {n S L : Nat} {V : Nat → Int} {ON OFF : Int} (hd : DG ⟨S, L, ON, OFF⟩) (hx : SV w u n V) (hn : n ≤ 1000) (hV : ∀ j, j < n → 0 ≤ V j ∧ V j ≤ 1073741823) (hcl : Cl w) (hba : ba ≤ 1000000) (hse : se ≤ n) (hpk : 0 ≤ pk0 ∧ pk0 ≤ 1073741823) :
    Calls Tryd.prog 28 #[.agg #[.int .i64 S, .int .i64 L, .int .i64 ON, .int .i64 OFF], u, .int .i64 (se : Int), .int .i64 (ba : Int), .agg #[.int .i64 on0, .int .i64 off0, .int .i64 pk0]] w fun e w' => Scanned w.heap.size (scg ⟨S, L, ON, OFF⟩ V se ba ⟨on0, off0, pk0⟩ n) e w' ∧ Below w.heap.size w w' := by
  obtain ⟨i0, hi, hz0, hz1, hz2⟩ := info_parts infoT
  obtain ⟨s1, sl, ll9, f1, fo, o9⟩ := id hd
  simp only at s1 sl ll9 f1 fo o9
  have RA := Lib.hid fun (sh lo p : Int) (w' : World) (a0 : 0 ≤ sh ∧ sh ≤ 1099511627776) (b0 : 0 ≤ lo ∧ lo ≤ 1099511627776) (p0 : 1 ≤ p) (p9 : p ≤ 10000) => reaches_any hd sh lo p w' a0.1 a0.2 b0.1 b0.2 p0 p9
  have PB := Lib.hid fun (k Z : Nat) (hk : k ≤ n) => part_bd hV hn k Z hk
  have HV := Lib.hid hV
  have HC := Lib.hid hcl
  obtain ⟨a, c, rfl, h1, h2, h3⟩ := hx
  have H3 := Lib.hid h3
  clear h3 h2 hV hcl hd
  obtain ⟨w1, hw1⟩ : ∃ w1, w1 = w.alloc (.cells #[.int .i64 S, .int .i64 L, .int .i64 ON, .int .i64 OFF] 28) := ⟨_, rfl⟩
  have z1 : Hid (w1.heap.size = w.heap.size + 1) := Lib.hid (by rw [hw1]; simp)
  have b1 : Hid (Below w.heap.size w w1) := Lib.hid (by rw [hw1]; exact new_block _)
  have K1 := Lib.hid (show w1.heap[w.heap.size]? = some (.cells #[.int .i64 S, .int .i64 L, .int .i64 ON, .int .i64 OFF] 28 (0, 0)) by rw [hw1]; exact heap_alloc_new w _)
  obtain ⟨w2, hw2⟩ : ∃ w2, w2 = w1.alloc (.cells #[.int .i64 on0, .int .i64 off0, .int .i64 pk0] 32) := ⟨_, rfl⟩
  have z2 : Hid (w2.heap.size = w.heap.size + 1 + 1) := Lib.hid (by rw [hw2]; simp [z1.out])
  have b2 : Below w1.heap.size w1 w2 := by rw [hw2]; exact new_block _
  have K2 := Lib.hid (show w2.heap[w.heap.size + 1]? = some (.cells #[.int .i64 on0, .int .i64 off0, .int .i64 pk0] 32 (0, 0)) by rw [hw2, ← z1.out]; exact heap_alloc_new w1 _)
  obtain ⟨w3, hw3⟩ : ∃ w3, w3 = w2.alloc (.cells #[.int .i64 0, .int .i64 0, .int .i64 0] 32) := ⟨_, rfl⟩
  have b3 : Below w2.heap.size w2 w3 := by rw [hw3]; exact new_block _
  have K3 := Lib.hid (show w3.heap[w.heap.size + 1 + 1]? = some (.cells #[.int .i64 0, .int .i64 0, .int .i64 0] 32 (0, 0)) by rw [hw3, ← z2.out]; exact heap_alloc_new w2 _)
  have M0 : Hid (ScM w w3 S L ON OFF on0 off0 pk0 (.slice none 0 0) []) := Lib.hid
    ⟨hbk b3 (hbk b2 K1.out), hbk b3 K2.out, K3.out, ⟨rfl, .inl ⟨rfl, rfl⟩⟩, Buf.then_ (Buf.then_ b1.out b2) b3, fun _ => rfl⟩
  go_enter Tryd.func28, Tryd.ntmps28
  go_upto_region 1 with fail
  rw [← hw1, ← hw2, ← hw3]
  clear hw1 hw2 hw3 z1 z2 b1 b2 b3 K1 K2 K3
  go_wp2_with fail
  go_loopw [12, 13, 14, 19] (fun v s l i wr => ∃ (k : Nat) (sh lo on off pk : Int) (e : List Tr), k ≤ n ∧ i = .int .i64 k ∧ s = .int .i64 sh ∧ l = .int .i64 lo ∧ Hid (sh = psum V k - psum V (k - S)) ∧ Hid (lo = psum V k - psum V (k - L)) ∧ Hid (scg ⟨S, L, ON, OFF⟩ V se ba ⟨on0, off0, pk0⟩ k = (e, ⟨on, off, pk⟩)) ∧ 0 ≤ pk ∧ pk ≤ 1073741823 ∧ e.length ≤ k ∧ Hid (ScM w wr S L ON OFF on off pk v e)) (fun _ _ _ i _ => n - (intOf i).toNat)
  case atStart => exact ⟨0, 0, 0, on0, off0, pk0, [], by omega, rfl, rfl, rfl, Lib.hid (by simp), Lib.hid (by simp), Lib.hid rfl, hpk.1, hpk.2, by simp, M0⟩
  case round =>
    clear M0
    obtain ⟨k, sh, lo, on, off, pk, e, hk, rfl, rfl, rfl, hsh, hlo, hs, p0, p9, he, M⟩ := hrel
    by_cases hlt : k < n
    · obtain ⟨b, off0, rfl, hbl, hc⟩ := H3.out (by omega)
      have WC : Hid (Below wr.heap.size wr wr) := Lib.hid (Below.refl _ _)
      have CV := Lib.hid fun (j : Nat) (hj : j < n) => (M.out.bel.cell (p := ⟨b, off0 + j, none⟩) hbl).trans (hc j hj)
      have cx := CV.out k hlt
      obtain ⟨x0, x9⟩ := HV.out k hlt
      have bs := PB.out k S hk
      have bl := PB.out k L hk
      have bA := PB.out (k + 1) S (by omega)
      have bC := PB.out (k + 1) L (by omega)
      rw [← hsh.out] at bs
      rw [← hlo.out] at bl
      obtain ⟨A2, hA2⟩ : ∃ A2, A2 = psum V (k + 1) - psum V (k + 1 - S) := ⟨_, rfl⟩
      obtain ⟨C2, hC2⟩ : ∃ C2, C2 = psum V (k + 1) - psum V (k + 1 - L) := ⟨_, rfl⟩
      have HA2 := Lib.hid hA2
      have HC2 := Lib.hid hC2
      have wA : Hid (win V S k = A2) := Lib.hid hA2.symm
      have wC : Hid (win V L k = C2) := Lib.hid hC2.symm
      rw [← hA2] at bA
      rw [← hC2] at bC
      clear hA2 hC2
      have bA : 0 ≤ A2 ∧ A2 ≤ 1099511627776 := by omega
      have bC : 0 ≤ C2 ∧ C2 ≤ 1099511627776 := by omega
      have SA : k < S → sh + V k = A2 := fun h => by
        rw [HA2.out, hsh.out, show k + 1 - S = 0 by omega, show k - S = 0 by omega]
        simp only [psum]; omega
      have SB : ∀ j, k = j + S → sh + V k - V j = A2 := fun j h => by
        rw [HA2.out, hsh.out, show k + 1 - S = j + 1 by omega, show k - S = j by omega]
        simp only [psum]; omega
      have LA : k < L → lo + V k = C2 := fun h => by
        rw [HC2.out, hlo.out, show k + 1 - L = 0 by omega, show k - L = 0 by omega]
        simp only [psum]; omega
      have LB : ∀ j, k = j + L → lo + V k - V j = C2 := fun j h => by
        rw [HC2.out, hlo.out, show k + 1 - L = j + 1 by omega, show k - L = j by omega]
        simp only [psum]; omega
      obtain ⟨x, hx⟩ : ∃ x, x = V k := ⟨_, rfl⟩
      rw [← hx] at cx x0 x9 SA SB LA LB
      replace hx := Lib.hid hx.symm
      replace SA := Lib.hid SA
      replace SB := Lib.hid SB
      replace LA := Lib.hid LA
      replace LB := Lib.hid LB
      clear hc
      (obtain ⟨d0, d1, d2, d3⟩ := c4 M.out.det); (obtain ⟨y0, y1, y2⟩ := c3 M.out.opn); (obtain ⟨g0, g1, g2⟩ := f3 M.out.opn)
      by_cases cS : k < S
      · have hA := SA.out cS
        have hC := LA.out (by omega)
        have t1 : ¬ ((S : Int) ≤ k) := by omega
        have t2 : ¬ ((L : Int) ≤ k) := by omega
        go_upto_region 11 with fail
        replace hA := Lib.hid hA
        replace hC := Lib.hid hC
        clear cx
        have hkL : k + 1 < L := by omega
        have hq : decide ((k : Int) < (L : Int) - 1) = true := by simp; omega
        by_cases hsn : k < se
        · have hsi : (k : Int) < (se : Int) := by omega
          go_wp2_with fail
          go_roundw
          case rel => exact ⟨k + 1, A2, C2, on, off, pk, e, by omega, by go_num, rfl, rfl, HA2, HC2, Lib.hid ((scg_next hs.out).trans (sg_wait _ _ _ _ _ _ _ (.inr hkL))), by omega, by omega, by omega, M⟩
          case measure => simp [intOf]; omega
        · have hsi : ¬ ((k : Int) < (se : Int)) := by omega
          go_wp2_with fail
          go_roundw
          case rel => exact ⟨k + 1, A2, C2, on, off, pk, e, by omega, by go_num, rfl, rfl, HA2, HC2, Lib.hid ((scg_next hs.out).trans (sg_wait _ _ _ _ _ _ _ (.inr hkL))), by omega, by omega, by omega, M⟩
          case measure => simp [intOf]; omega
      obtain ⟨j, hj⟩ : ∃ j : Nat, k = j + S := ⟨k - S, by omega⟩
      have hA := SB.out j hj
      have hjI : (k : Int) - S = (j : Int) := by omega
      have hjn : j < n := by omega
      have cj := CV.out j hjn
      obtain ⟨v0, v9⟩ := HV.out j hjn
      generalize V j = vj at hA cj v0 v9
      replace hj := Lib.hid hj
      have t1 : (S : Int) ≤ k := by omega
      by_cases cL : k < L
      · have hC := LA.out cL
        have t2 : ¬ ((L : Int) ≤ k) := by omega
        go_upto_region 11 with fail
        replace hA := Lib.hid hA
        replace hC := Lib.hid hC
        clear cx
        by_cases hkL : k + 1 < L
        · have hq : decide ((k : Int) < (L : Int) - 1) = true := by simp; omega
          by_cases hsn : k < se
          · have hsi : (k : Int) < (se : Int) := by omega
            go_wp2_with fail
            go_roundw
            case rel => exact ⟨k + 1, A2, C2, on, off, pk, e, by omega, by go_num, rfl, rfl, HA2, HC2, Lib.hid ((scg_next hs.out).trans (sg_wait _ _ _ _ _ _ _ (.inr hkL))), by omega, by omega, by omega, M⟩
            case measure => simp [intOf]; omega
          · have hsi : ¬ ((k : Int) < (se : Int)) := by omega
            go_wp2_with fail
            go_roundw
            case rel => exact ⟨k + 1, A2, C2, on, off, pk, e, by omega, by go_num, rfl, rfl, HA2, HC2, Lib.hid ((scg_next hs.out).trans (sg_wait _ _ _ _ _ _ _ (.inr hkL))), by omega, by omega, by omega, M⟩
            case measure => simp [intOf]; omega
        have hq : ¬ ((k : Int) < (L : Int) - 1) := by omega
        by_cases hsn : k < se
        · have hsi : (k : Int) < (se : Int) := by omega
          go_wp2_with fail
          go_roundw
          case rel => exact ⟨k + 1, A2, C2, on, off, pk, e, by omega, by go_num, rfl, rfl, HA2, HC2, Lib.hid ((scg_next hs.out).trans (sg_wait _ _ _ _ _ _ _ (.inl hsn))), by omega, by omega, by omega, M⟩
          case measure => simp [intOf]; omega
        have hsi : ¬ ((k : Int) < (se : Int)) := by omega
        have hkL0 := hkL
        replace hkL : ¬ (k < se ∨ k + 1 < (⟨S, L, ON, OFF⟩ : Dt).L) := fun h => h.elim hsn hkL0
        replace hkL := Lib.hid hkL
        by_cases ho : on < 0
        · have ho2 : ¬ 0 ≤ on := by omega
          have RK := Lib.hid (fun w5 => RA.out A2 C2 ON w5 bA bC (by omega) (by omega))
          cases hr : rch S L A2 C2 ON with
          | true =>
            rw [hr] at RK
            replace hr := Lib.hid hr
            go_wp2_with (go_at_call 37; with_reducible refine (RK.out _).mono ?_; rintro e w5 ⟨rfl, hc⟩; (replace M := Lib.hid (M.out.below hc)); (replace WC := Lib.hid (Buf.then_ WC.out hc)); (clear d0 d1 d2 d3 y0 y1 y2 g0 g1 g2); (obtain ⟨d0, d1, d2, d3⟩ := c4 M.out.det); (obtain ⟨y0, y1, y2⟩ := c3 M.out.opn); (obtain ⟨g0, g1, g2⟩ := f3 M.out.opn))
            go_roundw
            case rel => exact ⟨k + 1, A2, C2, ((ba : Int) + k), -1, x, e, by omega, by go_num, rfl, rfl, HA2, HC2, Lib.hid ((scg_next hs.out).trans (by rw [← hx.out]; exact sg_open _ _ _ _ _ _ _ hkL.out ho (by rw [wA.out, wC.out]; exact hr.out))), by omega, by omega, by omega, Lib.hid (M.out.set3 ((ba : Int) + k) (-1) x)⟩
            case measure => simp [intOf]; omega
          | false =>
            rw [hr] at RK
            replace hr := Lib.hid hr
            go_wp2_with (go_at_call 37; with_reducible refine (RK.out _).mono ?_; rintro e w5 ⟨rfl, hc⟩; (replace M := Lib.hid (M.out.below hc)); (replace WC := Lib.hid (Buf.then_ WC.out hc)); (clear d0 d1 d2 d3 y0 y1 y2 g0 g1 g2); (obtain ⟨d0, d1, d2, d3⟩ := c4 M.out.det); (obtain ⟨y0, y1, y2⟩ := c3 M.out.opn); (obtain ⟨g0, g1, g2⟩ := f3 M.out.opn))
            go_roundw
            case rel => exact ⟨k + 1, A2, C2, on, off, pk, e, by omega, by go_num, rfl, rfl, HA2, HC2, Lib.hid ((scg_next hs.out).trans (sg_idle _ _ _ _ _ _ _ hkL.out ho (by rw [wA.out, wC.out]; exact hr.out))), by omega, by omega, by omega, M⟩
            case measure => simp [intOf]; omega
        · have ho2 : 0 ≤ on := by omega
          have RK := Lib.hid (fun w5 => RA.out A2 C2 OFF w5 bA bC (by omega) (by omega))
          cases hr : rch S L A2 C2 OFF with
          | true =>
            rw [hr] at RK
            replace hr := Lib.hid hr
            go_wp2_with (go_at_call 37; with_reducible refine (RK.out _).mono ?_; rintro e w5 ⟨rfl, hc⟩; (replace M := Lib.hid (M.out.below hc)); (replace WC := Lib.hid (Buf.then_ WC.out hc)); (clear d0 d1 d2 d3 y0 y1 y2 g0 g1 g2); (obtain ⟨d0, d1, d2, d3⟩ := c4 M.out.det); (obtain ⟨y0, y1, y2⟩ := c3 M.out.opn); (obtain ⟨g0, g1, g2⟩ := f3 M.out.opn))
            go_roundw
            case rel => exact ⟨k + 1, A2, C2, on, off, (max pk x), e, by omega, by go_num, rfl, rfl, HA2, HC2, Lib.hid ((scg_next hs.out).trans (by rw [← hx.out]; exact sg_peak ⟨S, L, ON, OFF⟩ V se ba k e ⟨on, off, pk⟩ hkL.out (by show ¬ on < 0; omega) (by rw [wA.out, wC.out]; exact hr.out))), by omega, by omega, by omega, Lib.hid (M.out.set2 (max pk x))⟩
            case measure => simp [intOf]; omega
          | false =>
            rw [hr] at RK
            replace hr := Lib.hid hr
            go_upto_region 16 with (go_at_call 37; with_reducible refine (RK.out _).mono ?_; rintro e w5 ⟨rfl, hc⟩; (replace M := Lib.hid (M.out.below hc)); (replace WC := Lib.hid (Buf.then_ WC.out hc)); (clear d0 d1 d2 d3 y0 y1 y2 g0 g1 g2); (obtain ⟨d0, d1, d2, d3⟩ := c4 M.out.det); (obtain ⟨y0, y1, y2⟩ := c3 M.out.opn); (obtain ⟨g0, g1, g2⟩ := f3 M.out.opn))
            replace M := Lib.hid (M.out.set1 ((ba : Int) + k))
            clear d0 d1 d2 d3 y0 y1 y2 g0 g1 g2
            generalize w5.setCell ⟨w.heap.size + 1, 1, none⟩ (.int .i64 ((ba : Int) + k)) = w6 at *
            (obtain ⟨d0, d1, d2, d3⟩ := c4 M.out.det); (obtain ⟨y0, y1, y2⟩ := c3 M.out.opn); (obtain ⟨g0, g1, g2⟩ := f3 M.out.opn)
            have own := Lib.hid M.out.own
            have hsz : w.heap.size + 1 + 1 + 1 ≤ w6.heap.size := (Array.getElem?_eq_some_iff.1 M.out.res).1
            have m1 : Hid (e.length + 1 ≤ maxLen) := Lib.hid (by unfold maxLen; omega)
            have m2 : Hid ((e.length + 1) * 24 ≤ 140737488355328) := Lib.hid (by omega)
            go_upto_region 17 with (at_builtin; refine Tri.append3 rfl _ _ 38 rfl (w.heap.size + 1 + 1 + 1) 32 _ i0 _ 24 Tryd.underlying38 hi hz0 hz1 hz2 rfl rfl own.out hsz _ _ _ rfl rfl rfl rfl m1.out m2.out ?_; intro v' w7 hown' hg)
            replace M := Lib.hid (M.out.append ⟨on, (ba : Int) + k, pk⟩ (new_block _) hg hown')
            clear hown' hg own hsz d0 d1 d2 d3 y0 y1 y2 g0 g1 g2
            have CC := hbk M.out.bel HC.out
            obtain ⟨q0, q1, q2⟩ := c3 CC
            replace CC := Lib.hid CC
            (obtain ⟨d0, d1, d2, d3⟩ := c4 M.out.det); (obtain ⟨y0, y1, y2⟩ := c3 M.out.opn); (obtain ⟨g0, g1, g2⟩ := f3 M.out.opn)
            go_wp2_with fail
            go_roundw
            case rel => exact ⟨k + 1, A2, C2, -1, 0, 0, e ++ [⟨on, (ba : Int) + k, pk⟩], by omega, by go_num, rfl, rfl, HA2, HC2, Lib.hid ((scg_next hs.out).trans (sg_end ⟨S, L, ON, OFF⟩ V se ba k e ⟨on, off, pk⟩ hkL.out (by show ¬ on < 0; omega) (by rw [wA.out, wC.out]; exact hr.out))), by omega, by omega, by simp; omega, Lib.hid (M.out.set3 (-1) 0 0)⟩
            case measure => simp [intOf]; omega
      obtain ⟨m, hm⟩ : ∃ m : Nat, k = m + L := ⟨k - L, by omega⟩
      have hC := LB.out m hm
      have hmI : (k : Int) - L = (m : Int) := by omega
      have hmn : m < n := by omega
      have cm := CV.out m hmn
      obtain ⟨u0, u9⟩ := HV.out m hmn
      generalize V m = vm at hC cm u0 u9
      replace hm := Lib.hid hm
      have t2 : (L : Int) ≤ k := by omega
      go_upto_region 11 with fail
      replace hA := Lib.hid hA
      replace hC := Lib.hid hC
      clear cx
      have hkL : ¬ k + 1 < L := by omega
      have hq : ¬ ((k : Int) < (L : Int) - 1) := by omega
      by_cases hsn : k < se
      · have hsi : (k : Int) < (se : Int) := by omega
        go_wp2_with fail
        go_roundw
        case rel => exact ⟨k + 1, A2, C2, on, off, pk, e, by omega, by go_num, rfl, rfl, HA2, HC2, Lib.hid ((scg_next hs.out).trans (sg_wait _ _ _ _ _ _ _ (.inl hsn))), by omega, by omega, by omega, M⟩
        case measure => simp [intOf]; omega
      have hsi : ¬ ((k : Int) < (se : Int)) := by omega
      have hkL0 := hkL
      replace hkL : ¬ (k < se ∨ k + 1 < (⟨S, L, ON, OFF⟩ : Dt).L) := fun h => h.elim hsn hkL0
      replace hkL := Lib.hid hkL
      by_cases ho : on < 0
      · have ho2 : ¬ 0 ≤ on := by omega
        have RK := Lib.hid (fun w5 => RA.out A2 C2 ON w5 bA bC (by omega) (by omega))
        cases hr : rch S L A2 C2 ON with
        | true =>
          rw [hr] at RK
          replace hr := Lib.hid hr
          go_wp2_with (go_at_call 37; with_reducible refine (RK.out _).mono ?_; rintro e w5 ⟨rfl, hc⟩; (replace M := Lib.hid (M.out.below hc)); (replace WC := Lib.hid (Buf.then_ WC.out hc)); (clear d0 d1 d2 d3 y0 y1 y2 g0 g1 g2); (obtain ⟨d0, d1, d2, d3⟩ := c4 M.out.det); (obtain ⟨y0, y1, y2⟩ := c3 M.out.opn); (obtain ⟨g0, g1, g2⟩ := f3 M.out.opn))
          go_roundw
          case rel => exact ⟨k + 1, A2, C2, ((ba : Int) + k), -1, x, e, by omega, by go_num, rfl, rfl, HA2, HC2, Lib.hid ((scg_next hs.out).trans (by rw [← hx.out]; exact sg_open _ _ _ _ _ _ _ hkL.out ho (by rw [wA.out, wC.out]; exact hr.out))), by omega, by omega, by omega, Lib.hid (M.out.set3 ((ba : Int) + k) (-1) x)⟩
          case measure => simp [intOf]; omega
        | false =>
          rw [hr] at RK
          replace hr := Lib.hid hr
          go_wp2_with (go_at_call 37; with_reducible refine (RK.out _).mono ?_; rintro e w5 ⟨rfl, hc⟩; (replace M := Lib.hid (M.out.below hc)); (replace WC := Lib.hid (Buf.then_ WC.out hc)); (clear d0 d1 d2 d3 y0 y1 y2 g0 g1 g2); (obtain ⟨d0, d1, d2, d3⟩ := c4 M.out.det); (obtain ⟨y0, y1, y2⟩ := c3 M.out.opn); (obtain ⟨g0, g1, g2⟩ := f3 M.out.opn))
          go_roundw
          case rel => exact ⟨k + 1, A2, C2, on, off, pk, e, by omega, by go_num, rfl, rfl, HA2, HC2, Lib.hid ((scg_next hs.out).trans (sg_idle _ _ _ _ _ _ _ hkL.out ho (by rw [wA.out, wC.out]; exact hr.out))), by omega, by omega, by omega, M⟩
          case measure => simp [intOf]; omega
      · have ho2 : 0 ≤ on := by omega
        have RK := Lib.hid (fun w5 => RA.out A2 C2 OFF w5 bA bC (by omega) (by omega))
        cases hr : rch S L A2 C2 OFF with
        | true =>
          rw [hr] at RK
          replace hr := Lib.hid hr
          go_wp2_with (go_at_call 37; with_reducible refine (RK.out _).mono ?_; rintro e w5 ⟨rfl, hc⟩; (replace M := Lib.hid (M.out.below hc)); (replace WC := Lib.hid (Buf.then_ WC.out hc)); (clear d0 d1 d2 d3 y0 y1 y2 g0 g1 g2); (obtain ⟨d0, d1, d2, d3⟩ := c4 M.out.det); (obtain ⟨y0, y1, y2⟩ := c3 M.out.opn); (obtain ⟨g0, g1, g2⟩ := f3 M.out.opn))
          go_roundw
          case rel => exact ⟨k + 1, A2, C2, on, off, (max pk x), e, by omega, by go_num, rfl, rfl, HA2, HC2, Lib.hid ((scg_next hs.out).trans (by rw [← hx.out]; exact sg_peak ⟨S, L, ON, OFF⟩ V se ba k e ⟨on, off, pk⟩ hkL.out (by show ¬ on < 0; omega) (by rw [wA.out, wC.out]; exact hr.out))), by omega, by omega, by omega, Lib.hid (M.out.set2 (max pk x))⟩
          case measure => simp [intOf]; omega
        | false =>
          rw [hr] at RK
          replace hr := Lib.hid hr
          go_upto_region 16 with (go_at_call 37; with_reducible refine (RK.out _).mono ?_; rintro e w5 ⟨rfl, hc⟩; (replace M := Lib.hid (M.out.below hc)); (replace WC := Lib.hid (Buf.then_ WC.out hc)); (clear d0 d1 d2 d3 y0 y1 y2 g0 g1 g2); (obtain ⟨d0, d1, d2, d3⟩ := c4 M.out.det); (obtain ⟨y0, y1, y2⟩ := c3 M.out.opn); (obtain ⟨g0, g1, g2⟩ := f3 M.out.opn))
          replace M := Lib.hid (M.out.set1 ((ba : Int) + k))
          clear d0 d1 d2 d3 y0 y1 y2 g0 g1 g2
          generalize w5.setCell ⟨w.heap.size + 1, 1, none⟩ (.int .i64 ((ba : Int) + k)) = w6 at *
          (obtain ⟨d0, d1, d2, d3⟩ := c4 M.out.det); (obtain ⟨y0, y1, y2⟩ := c3 M.out.opn); (obtain ⟨g0, g1, g2⟩ := f3 M.out.opn)
          have own := Lib.hid M.out.own
          have hsz : w.heap.size + 1 + 1 + 1 ≤ w6.heap.size := (Array.getElem?_eq_some_iff.1 M.out.res).1
          have m1 : Hid (e.length + 1 ≤ maxLen) := Lib.hid (by unfold maxLen; omega)
          have m2 : Hid ((e.length + 1) * 24 ≤ 140737488355328) := Lib.hid (by omega)
          go_upto_region 17 with (at_builtin; refine Tri.append3 rfl _ _ 38 rfl (w.heap.size + 1 + 1 + 1) 32 _ i0 _ 24 Tryd.underlying38 hi hz0 hz1 hz2 rfl rfl own.out hsz _ _ _ rfl rfl rfl rfl m1.out m2.out ?_; intro v' w7 hown' hg)
          replace M := Lib.hid (M.out.append ⟨on, (ba : Int) + k, pk⟩ (new_block _) hg hown')
          clear hown' hg own hsz d0 d1 d2 d3 y0 y1 y2 g0 g1 g2
          have CC := hbk M.out.bel HC.out
          obtain ⟨q0, q1, q2⟩ := c3 CC
          replace CC := Lib.hid CC
          (obtain ⟨d0, d1, d2, d3⟩ := c4 M.out.det); (obtain ⟨y0, y1, y2⟩ := c3 M.out.opn); (obtain ⟨g0, g1, g2⟩ := f3 M.out.opn)
          go_wp2_with fail
          go_roundw
          case rel => exact ⟨k + 1, A2, C2, -1, 0, 0, e ++ [⟨on, (ba : Int) + k, pk⟩], by omega, by go_num, rfl, rfl, HA2, HC2, Lib.hid ((scg_next hs.out).trans (sg_end ⟨S, L, ON, OFF⟩ V se ba k e ⟨on, off, pk⟩ hkL.out (by show ¬ on < 0; omega) (by rw [wA.out, wC.out]; exact hr.out))), by omega, by omega, by simp; omega, Lib.hid (M.out.set3 (-1) 0 0)⟩
          case measure => simp [intOf]; omega
    · obtain rfl : k = n := by omega
      obtain ⟨y0, y1, y2⟩ := c3 M.out.opn
      have g0 := (f3 M.out.res).1
      have r0 := (c3 M.out.res).1
      have h1s := fun u => (heap_setCell_same wr (w.heap.size + 1 + 1) 0 _ _ u M.out.res).trans (show _ = some (.cells #[u, .int .i64 0, .int .i64 0] 32 (0, 0)) from rfl)
      have r1 := fun u => (c3 (h1s u)).2.1
      have g1 := fun u => (f3 (h1s u)).2.1
      have h2s := fun u v => (heap_setCell_same (wr.setCell ⟨w.heap.size + 1 + 1, 0, none⟩ u) (w.heap.size + 1 + 1) 1 _ _ v (h1s u)).trans (show _ = some (.cells #[u, v, .int .i64 0] 32 (0, 0)) from rfl)
      have r2 := fun u v => (c3 (h2s u v)).2.2
      have g2 := fun u v => (f3 (h2s u v)).2.2
      have KZ := Lib.hid (st3 M.out.res (.int .i64 on) (.int .i64 off) (.int .i64 pk))
      have BZ := Lib.hid ((((M.out.bel.setCell (p := ⟨w.heap.size + 1 + 1, 0, none⟩) (by show w.heap.size ≤ w.heap.size + 1 + 1; omega) (.int .i64 on)).setCell (p := ⟨w.heap.size + 1 + 1, 1, none⟩) (by show w.heap.size ≤ w.heap.size + 1 + 1; omega) (.int .i64 off)).setCell (p := ⟨w.heap.size + 1 + 1, 2, none⟩) (by show w.heap.size ≤ w.heap.size + 1 + 1; omega) (.int .i64 pk)).drew)
      have OZ : Hid (((((wr.setCell ⟨w.heap.size + 1 + 1, 0, none⟩ (.int .i64 on)).setCell ⟨w.heap.size + 1 + 1, 1, none⟩ (.int .i64 off)).setCell ⟨w.heap.size + 1 + 1, 2, none⟩ (.int .i64 pk)).drew).ownsRow w.heap.size 32 3 u12 e.length (row e)) := Lib.hid (by
        refine own_mono (own_kept M.out.own fun b hb => ?_) (by omega)
        have hne : b ≠ w.heap.size + 1 + 1 := by have := (M.out.own.lt b hb).1; omega
        exact (Below.heap_setCell _ _ _ b hne).trans ((Below.heap_setCell _ _ _ b hne).trans (Below.heap_setCell _ _ _ b hne)))
      clear h1s h2s
      replace hs := Lib.hid hs.out
      go_wp2_with fail
      go_region
      go_wp2_with fail
      refine bodyPost_ret (tmp_row rfl _ _ (w.heap.size + 1 + 1) _ _ _ _ rfl KZ.out rfl (by rfl) rfl) rfl ⟨?_, BZ.out⟩
      rw [hs.out]
      exact ⟨_, rfl, OZ.out, M.out.nil_⟩
end Det
end Go.Proofs.YtbmcmiggifknfaaDoor
