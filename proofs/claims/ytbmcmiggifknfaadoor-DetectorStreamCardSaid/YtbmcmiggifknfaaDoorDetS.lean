/- detector.sum, detector.Ratio. -/
import Derived.Test.YtbmcmiggifknfaaDoorDetC
import Derived.Test.YtbmcmiggifknfaaDoorDetN
set_option linter.unusedVariables false
set_option linter.unusedSimpArgs false
namespace Go.Proofs.YtbmcmiggifknfaaDoor
open Go.RowKit Wi Dice
namespace Det
theorem psum_from (V : Nat → Int) (a : Nat) : ∀ c, psum (fun j => V (a + j)) c = psum V (a + c) - psum V a := by
  intro c
  induction c with
  | zero => simp [psum]
  | succ c ih =>
    rw [show a + (c + 1) = (a + c) + 1 by omega]
    show psum (fun j => V (a + j)) c + V (a + c) = psum V (a + c) + V (a + c) - psum V a
    rw [ih]; omega
set_option maxHeartbeats 4000000 in
set_option maxRecDepth 100000 in
theorem sum_any {w : World} {v : Value} {n : Nat} {V : Nat → Int} (h : SV w v n V) (hn : n ≤ 1000) (hV : ∀ j, j < n → 0 ≤ V j ∧ V j ≤ 1073741823) :
    Calls Tryd.prog 33 #[v] w fun e w' => e = .returned (.int .i64 (psum V n)) ∧ Below w.heap.size w w' := by
  have PB := psum_bd hV
  obtain ⟨a, c, rfl, h1, h2, h3⟩ := h
  have H3 := Lib.hid h3
  have HX := Lib.hid hV
  replace PB := Lib.hid PB
  clear h3 hV h2
  go_enter Tryd.func33, Tryd.ntmps33
  go_wp2_with fail
  go_loopw [3, 8] (fun s i wr => ∃ (k : Nat) (t : Int), k ≤ n ∧ i = .int .i64 k ∧ s = .int .i64 t ∧ Hid (t = psum V k) ∧ Hid (Below w.heap.size w wr)) (fun _ i _ => n - (intOf i).toNat)
  case atStart => exact ⟨0, 0, by omega, rfl, rfl, Lib.hid rfl, Lib.hid (Below.refl _ _)⟩
  case round =>
    obtain ⟨k, t, hk, rfl, rfl, ht, hb⟩ := hrel
    by_cases hlt : k < n
    · obtain ⟨b, off, rfl, hbl, hc⟩ := H3.out (by omega)
      have c1 : wr.cell? ⟨b, off + k, none⟩ = some (.int .i64 (V k)) := by rw [hb.out.cell (p := ⟨b, off + k, none⟩) hbl]; exact hc k hlt
      obtain ⟨x1, x2⟩ := HX.out k hlt
      have tb : 0 ≤ t ∧ t ≤ 1073741823000 := by have := PB.out k hk; rw [ht.out]; omega
      have HT : Hid (t + V k = psum V (k + 1)) := Lib.hid (by rw [ht.out]; rfl)
      generalize V k = x at c1 x1 x2 HT
      clear hc
      go_wp2_with fail
      go_roundw
      case rel => exact ⟨k + 1, t + x, by omega, by go_num, rfl, HT, hb⟩
      case measure => simp [intOf]; omega
    · obtain rfl : n = k := by omega
      go_wp2_with fail
      go_ret
      exact ⟨by rw [ht.out]; rfl, hb.out⟩
set_option maxHeartbeats 8000000 in
set_option maxRecDepth 100000 in
theorem ratio_any {w : World} {u : Value} {n S L i : Nat} {X : Nat → Int} {ON OFF : Int} (hd : DG ⟨S, L, ON, OFF⟩) (hx : SV w u n X) (hn : n ≤ 1000) (hX : ∀ j, j < n → -1073741823 ≤ X j ∧ X j ≤ 1073741823) (hi0 : L ≤ i + 1) (hi1 : i < n) :
    Calls Tryd.prog 20 #[.agg #[.int .i64 S, .int .i64 L, .int .i64 ON, .int .i64 OFF], u, .int .i64 i] w fun e w' => e = .returned (.tuple #[.int .i64 (win (ab X) S i), .int .i64 (win (ab X) L i), .int .i64 0]) ∧ Below w.heap.size w w' := by
  have VD := Lib.hid fun (w' : World) => valid_yes hd w'
  have IR := Lib.hid fun (w' : World) (h : Below w.heap.size w w') => inRange_any (hx.below h) (by omega) hX
  have hs1 := hd.s1
  have hsl := hd.sl
  have hl9 := hd.l9
  simp only at hs1 hsl hl9
  obtain ⟨b, off, c, rfl, hnc, hcm, hbl, hcc⟩ : ∃ b off c, u = .slice (some ⟨b, off, none⟩) n c ∧ n ≤ c ∧ c ≤ maxLen ∧ b < w.heap.size ∧ ∀ j, j < n → w.cell? ⟨b, off + j, none⟩ = some (.int .i64 (X j)) := by
    obtain ⟨a, c, e, h1, h2, h3⟩ := hx
    obtain ⟨b, off, rfl, h4, h5⟩ := h3 (by omega)
    exact ⟨b, off, c, e, h1, h2, h4, h5⟩
  replace hcc := Lib.hid hcc
  replace hX := Lib.hid hX
  obtain ⟨w1, hw1⟩ : ∃ w1, w1 = w.alloc (.cells #[.int .i64 S, .int .i64 L, .int .i64 ON, .int .i64 OFF] 28) := ⟨_, rfl⟩
  obtain ⟨p3, hp3⟩ : ∃ p, p = w.heap.size := ⟨_, rfl⟩
  have hb1 : Below w.heap.size w w1 := by rw [hw1]; exact new_block _
  have K1 := Lib.hid (show w1.heap[p3]? = some (.cells #[.int .i64 S, .int .i64 L, .int .i64 ON, .int .i64 OFF] 28 (0, 0)) by rw [hw1, hp3]; exact heap_alloc_new w _)
  have B1 := Lib.hid hb1
  go_enter Tryd.func20, Tryd.ntmps20
  go_upto_region 1 with fail
  rw [← hw1, ← hp3]
  clear hw1 hb1 hx hd hp3
  obtain ⟨q0, q1, q2, q3⟩ := c4 K1.out
  go_wp2_with (go_at_call 22; (with_reducible refine (VD.out _).mono ?_); rintro e w2 ⟨rfl, hb⟩; replace K1 := Lib.hid (hbk hb K1.out); replace B1 := Lib.hid (Buf.then_ B1.out hb); clear hb q0 q1 q2 q3; obtain ⟨q0, q1, q2, q3⟩ := c4 K1.out)
  refine (IR.out _ B1.out).mono ?_
  rintro e w3 ⟨rfl, hb⟩
  replace K1 := Lib.hid (hbk hb K1.out)
  replace B1 := Lib.hid (Buf.then_ B1.out hb)
  clear hb q0 q1 q2 q3
  obtain ⟨q0, q1, q2, q3⟩ := c4 K1.out
  go_wp2_with (go_at_call 32; refine (within_yes _ _ _ _ (by omega) (by omega)).mono ?_; rintro e w' ⟨rfl, m, rfl⟩)
  have hD := Lib.hid (Buf.below_drewN B1.out m)
  rw [show i + 1 - (i + 1 - L) = L by omega]
  refine (absolute_any (n := L) (X := fun j => X (i + 1 - L + j)) ⟨_, _, rfl, by omega, by omega, fun _ => ⟨b, off + (i + 1 - L), rfl, Nat.lt_of_lt_of_le hbl hD.out.size, fun j hj => by
    rw [hD.out.cell (p := ⟨b, off + (i + 1 - L) + j, none⟩) hbl, Nat.add_assoc]; exact hcc.out _ (by omega)⟩⟩ (by omega) (fun j hj => hX.out _ (by omega))).mono ?_
  rintro e w4 ⟨⟨r, rfl, hr⟩, hb⟩
  have hb2 := Buf.then_ (Buf.below_drewN (Below.refl w3.heap.size w3) m) hb
  replace K1 := Lib.hid (hbk hb2 K1.out)
  replace B1 := Lib.hid (Buf.then_ B1.out hb2)
  clear hb hb2 q0 q1 q2 q3 hD
  obtain ⟨q0, q1, q2, q3⟩ := c4 K1.out
  obtain ⟨ra, rc, rfl, r1, r2, r3⟩ := hr
  obtain ⟨rb, ro, rfl, r4, r5⟩ := r3 (by omega)
  replace r5 := Lib.hid r5
  have hvb : ∀ j, j < L → 0 ≤ ab (fun j => X (i + 1 - L + j)) j ∧ ab (fun j => X (i + 1 - L + j)) j ≤ 1073741823 := fun j hj => by
    have := hX.out (i + 1 - L + j) (by omega)
    show 0 ≤ max (X (i + 1 - L + j)) (-X (i + 1 - L + j)) ∧ max (X (i + 1 - L + j)) (-X (i + 1 - L + j)) ≤ 1073741823
    omega
  replace hvb := Lib.hid hvb
  have ef : (fun j => ab X (i + 1 - L + j)) = ab (fun j => X (i + 1 - L + j)) := rfl
  have e1 : psum (fun j => ab (fun j => X (i + 1 - L + j)) (L - S + j)) S = win (ab X) S i := by
    rw [← ef]
    show psum (fun j => ab X (i + 1 - L + (L - S + j))) S = _
    rw [show (fun j => ab X (i + 1 - L + (L - S + j))) = (fun j => ab X (i + 1 - S + j)) from funext fun j => by congr 1; omega, psum_from]
    unfold win
    rw [show i + 1 - S + S = i + 1 by omega]
  have e2 : psum (ab (fun j => X (i + 1 - L + j))) L = win (ab X) L i := by
    rw [← ef, psum_from]
    unfold win
    rw [show i + 1 - L + L = i + 1 by omega]
  replace e1 := Lib.hid e1
  replace e2 := Lib.hid e2
  clear ef r3
  go_wp2_with fail
  rw [show L - (L - S) = S by omega]
  refine (sum_any (n := S) (V := fun j => ab (fun j => X (i + 1 - L + j)) (L - S + j)) ⟨_, _, rfl, by omega, by omega, fun _ => ⟨rb, ro + (L - S), rfl, r4, fun j hj => by
    rw [Nat.add_assoc]; exact r5.out _ (by omega)⟩⟩ (by omega) (fun j hj => hvb.out _ (by omega))).mono ?_
  rintro e w5 ⟨rfl, hb⟩
  rw [e1.out]
  have B2 := Lib.hid (Buf.then_ B1.out hb)
  go_wp2_with fail
  refine (sum_any (n := L) (V := ab (fun j => X (i + 1 - L + j))) ⟨_, _, rfl, by omega, by omega, fun _ => ⟨rb, ro, rfl, Nat.lt_of_lt_of_le r4 hb.size, fun j hj => by
    rw [hb.cell (p := ⟨rb, ro + j, none⟩) r4]; exact r5.out _ hj⟩⟩ (by omega) hvb.out).mono ?_
  rintro e w6 ⟨rfl, hb'⟩
  rw [e2.out]
  replace B2 := Lib.hid (Buf.then_ B2.out hb')
  go_wp2_with fail
  go_ret3
  exact ⟨rfl, B2.out⟩
end Det
end Go.Proofs.YtbmcmiggifknfaaDoor
