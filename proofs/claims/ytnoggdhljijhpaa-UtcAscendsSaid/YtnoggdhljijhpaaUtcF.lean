/- FromCivil, and that it undoes ToCivil. -/
import Derived.Test.YtnoggdhljijhpaaUtcE
set_option linter.unusedVariables false
set_option linter.unusedSimpArgs false
namespace Go.Proofs.Ytnoggdhljijhpaa
open Go.RowKit
namespace Utc
set_option maxRecDepth 100000 in
set_option maxHeartbeats 4000000 in
theorem from_of {w : World} {a : Option Addr} {n c : Nat} {L : List Int} (h : Ro w a n c L) (hv : VT L) (Y M D H N S U : Int) (hd : VD Y M D) (Y0 : 1970 ≤ Y) (Y9 : Y ≤ 2300) (H0 : 0 ≤ H) (H9 : H ≤ 23) (N0 : 0 ≤ N) (N9 : N ≤ 59) (S0 : 0 ≤ S) (S9 : S ≤ 60) (U0 : 0 ≤ U) (U9 : U ≤ 999999)
    (s : Int) (s0 : 0 ≤ s) (s9 : s ≤ 9007199254) (t : Int) (ht : s * 1000000 + U = t) (t9 : t ≤ 9007199254740992)
    (SO : Hid (∀ wx, Below w.heap.size w wx → Calls Try.prog 35 #[.slice a n c, .int .i64 (dn Y M D), .agg #[.int .i64 Y, .int .i64 M, .int .i64 D, .int .i64 H, .int .i64 N, .int .i64 S, .int .i64 U]] wx fun e w' => e = .returned (.tuple #[.int .i64 s, .bool true]) ∧ Below wx.heap.size wx w')) :
    Calls Try.prog 22 #[.slice a n c, .agg #[.int .i64 Y, .int .i64 M, .int .i64 D, .int .i64 H, .int .i64 N, .int .i64 S, .int .i64 U]] w fun e w' => e = .returned (.tuple #[.int .i64 t, .int .i64 0]) ∧ Below w.heap.size w w' := by
  have V := Lib.hid fun w' (hb : Below w.heap.size w w') => valid_yes (h.below hb) hv
  have DD := Lib.hid fun w' => days_yes Y M D w' hd Y0 Y9
  have BA := Lib.hid (Dice.new_block (w := w) (.cells #[.int .i64 Y, .int .i64 M, .int .i64 D, .int .i64 H, .int .i64 N, .int .i64 S, .int .i64 U] 39))
  have p0 := Lib.hid (heap_alloc_new w (.cells #[.int .i64 Y, .int .i64 M, .int .i64 D, .int .i64 H, .int .i64 N, .int .i64 S, .int .i64 U] 39))
  generalize dn Y M D = d at *
  clear h hv hd
  have S00 := s0
  go_enter Try.func22, Try.ntmps22
  go_wp2_with fail
  with_reducible refine (V.out _ BA.out).mono ?_
  rintro e w' ⟨rfl, hw⟩
  subst hw
  go_wp2_with fail
  with_reducible refine (DD.out _).mono ?_
  rintro e w' ⟨rfl, hw⟩
  subst hw
  go_wp2_with (go_at_call 34; refine (Wi.within_yes _ _ _ _ (by omega) (by omega)).mono ?_; rintro e w' ⟨rfl, q, rfl⟩)
  have B1 := Lib.hid fun q => Buf.below_drewN BA.out q
  have P1 := Lib.hid fun q => (show ((w.alloc (.cells #[.int .i64 Y, .int .i64 M, .int .i64 D, .int .i64 H, .int .i64 N, .int .i64 S, .int .i64 U] 39)).drewN q).heap[w.heap.size]? = _ from p0.out)
  obtain ⟨w2, hw2, B2, P2⟩ : ∃ w2, w2 = (w.alloc (.cells #[.int .i64 Y, .int .i64 M, .int .i64 D, .int .i64 H, .int .i64 N, .int .i64 S, .int .i64 U] 39)).drewN _ ∧ Hid (Below w.heap.size w w2) ∧ Hid (w2.heap[w.heap.size]? = some (.cells #[.int .i64 Y, .int .i64 M, .int .i64 D, .int .i64 H, .int .i64 N, .int .i64 S, .int .i64 U] 39 (0, 0))) := ⟨_, rfl, Lib.hid (B1.out _), Lib.hid (P1.out _)⟩
  rw [← hw2]
  replace hw2 := Lib.hid hw2
  clear V DD B1 P1 BA p0
  refine (SO.out _ B2.out).mono ?_
  rintro e w3 ⟨rfl, b3⟩
  replace P2 := Lib.hid ((b3.block _ (Array.getElem?_eq_some_iff.1 P2.out).1).trans P2.out)
  replace B2 := Lib.hid (Buf.then_ B2.out b3)
  obtain ⟨k0, k1, k2, k3, k4, k5, k6⟩ := cells7 P2.out
  clear b3 SO
  have tn : ¬ (9007199254740992 < t) := by omega
  go_wp2_with fail
  go_ret2
  exact ⟨rfl, B2.out⟩
/-- The time of a civil time that ToCivil returns. -/
theorem back_any {w : World} {a : Option Addr} {n c : Nat} {L : List Int} (h : Ro w a n c L) (hv : VT L) (t : Int) (h0 : 0 ≤ t) (h9 : t ≤ 9007199254740992) :
    Calls Try.prog 22 #[.slice a n c, civ (cb L (t / 1000000)) (cs L (t / 1000000)) (t % 1000000)] w fun e w' => e = .returned (.tuple #[.int .i64 t, .int .i64 0]) ∧ Below w.heap.size w w' := by
  obtain ⟨s, hs⟩ : ∃ s, s = t / 1000000 := ⟨_, rfl⟩
  have s0 : 0 ≤ s := by omega
  have s9 : s ≤ 9007199254 := by omega
  obtain ⟨c0, c9, c5, c6, c7⟩ := cb_in hv s s0 s9
  rw [← hs]
  have hl := h.len
  obtain ⟨q, hq⟩ : ∃ q, q = cb L s / 86400 := ⟨_, rfl⟩
  have q0 : 0 ≤ q := by omega
  have q9 : q ≤ 104249 := by omega
  obtain ⟨y0, y9, _, _, _, _, hdn⟩ := date_ok q q0 (by omega)
  have hvd := vd_date q q0 (by omega)
  unfold civ
  rw [← hq]
  refine from_of h hv _ _ _ _ _ _ _ hvd y0 y9 (by omega) (by omega) (by omega) (by omega) ?_ ?_ (by omega) (by omega) s s0 s9 t (by omega) h9 (Lib.hid fun wx hb => ?_)
  · unfold cs; split <;> omega
  · unfold cs; split <;> omega
  · rw [hdn]
    cases hi : isL L s with
    | true =>
      have e1 : cs L s = 60 := by unfold cs; rw [hi]; rfl
      have e2 : cb L s = s - off L s - 1 := by unfold cb; rw [hi]; rfl
      have e3 := c5 hi
      unfold isL at hi
      obtain ⟨i1, i2⟩ := of_decide_eq_true hi
      rw [e1]
      have h23 : cb L s % 86400 / 3600 = 23 := by omega
      have h59 : cb L s % 86400 / 60 % 60 = 59 := by omega
      rw [h23, h59]
      have := secondOf_60 (h.below hb) hv q (dY q) (dM q) (dD q) (t % 1000000) q0 (by omega) (off L s) (by omega) (by rw [i2]; omega)
      rw [i2] at this
      exact this
    | false =>
      have e2 : cb L s = s - off L s := by unfold cb; rw [hi]; rfl
      have e1 : cs L s = cb L s % 86400 % 60 := by unfold cs; rw [hi]; rfl
      have hi' : ¬ (off L s < L.length ∧ L.getD (off L s) 0 = s) := fun hc => by unfold isL at hi; rw [decide_eq_true hc] at hi; cases hi
      have hol := off_le L s
      have := secondOf_n (h.below hb) hv q (dY q) (dM q) (dD q) (cb L s % 86400 / 3600) (cb L s % 86400 / 60 % 60) (cs L s) (t % 1000000) q0 (by omega) (by omega) (by omega) (by omega) (by omega) (by omega) (by omega) (off L s) (by omega) (s - off L s) (by omega)
        (fun k hk => by
          have a1 := off_below L s (off L s - 1) (by omega)
          have a2 := hv.le (i := k) (j := off L s - 1) (by omega) (by omega)
          omega)
        (fun k hk hn => by
          have a1 := off_at L s (by omega)
          have a2 := hv.le (i := off L s) (j := k) hk (by omega)
          have a3 : L.getD (off L s) 0 ≠ s := fun he => hi' ⟨by omega, he⟩
          omega)
      have es : s - (off L s : Int) + (off L s : Int) = s := by omega
      rw [es] at this
      exact this
end Utc
end Go.Proofs.Ytnoggdhljijhpaa
