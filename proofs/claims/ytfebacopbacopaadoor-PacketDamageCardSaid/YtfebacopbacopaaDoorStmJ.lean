/- codesOf, Codes, wellFormed, signedWord. -/
import Derived.Test.YtfebacopbacopaaDoorStmI
set_option linter.unusedVariables false
set_option linter.unusedSimpArgs false
namespace Go.Proofs.YtfebacopbacopaaDoor
open Go.RowKit Dice Ri Rk
namespace St
/-- The pairs of a word. -/
def prs (h : Int) (k : Nat) : List Int := (List.range k).map fun i => Ma.pr h (15 - i)
theorem prs_succ (h : Int) (k : Nat) : prs h (k + 1) = prs h k ++ [Ma.pr h (15 - k)] := by simp [prs, List.range_succ]
theorem prs_length (h : Int) (k : Nat) : (prs h k).length = k := by simp [prs]
theorem prs_get (h : Int) (i k : Nat) (hi : i < k) : (prs h k).getD i 0 = Ma.pr h (15 - i) := by
  simp [prs, List.getD, hi]
/-- The word at a place of the bytes. -/
theorem get4 (A : List Int) (hA : A32 A) (k : Nat) (h : k < A.length) (hl : A.length ≤ 1000) (p : Int) (hp : p = ((4 * k : Nat) : Int)) (w : World) :
    Calls Tryd.prog 69 #[.string ⟨⟨bys A⟩⟩, .int .i64 p, .int .i64 4] w fun e w' => e = .returned (.tuple #[.int .i64 (A.getD k 0), .int .i64 0]) ∧ Below w.heap.size w w' := by
  subst hp
  have hs : (ByteArray.mk ⟨bys A⟩).size = 4 * A.length := bys_length A
  have g := Bits.get_ok ⟨⟨bys A⟩⟩ (4 * k) 4 w (by rw [hs]; omega) (by omega) (by omega) (by rw [hs]; omega)
  have e := word_val A hA k h
  refine Calls.mono g ?_
  rintro e' w' ⟨he, hm⟩
  refine ⟨?_, bel_drew hm⟩
  rw [he, ← e]
set_option maxHeartbeats 4000000 in
set_option maxRecDepth 100000 in
theorem codesOf_any (A : List Int) (hA : A32 A) (h1 : 1 ≤ A.length) (h9 : A.length ≤ 1000) (w : World) :
    Calls Tryd.prog 86 #[.string ⟨⟨bys A⟩⟩] w fun e w' => (∃ b c, e = .returned (.slice b 16 c) ∧ Ro w' b 16 c (prs (A.getD 0 0) 16) ∧ (∀ g o, b = some ⟨g, o, none⟩ → w.heap.size ≤ g)) ∧ Below w.heap.size w w' := by
  have G := Lib.hid fun w' => get4 A hA 0 (by omega) h9 0 rfl w'
  obtain ⟨x0, x1⟩ := hA.getD 0
  generalize A.getD 0 0 = x at *
  obtain ⟨l, hl⟩ : ∃ l, l = bys A := ⟨_, rfl⟩
  rw [← hl] at G ⊢
  replace hl := Lib.hid hl
  obtain ⟨i0, hi, hz0, hz1, hz2⟩ := info_parts infoI
  clear hA h1 h9
  go_enter Tryd.func86, Tryd.ntmps86
  go_wp2_with fail
  with_reducible refine (G.out _).mono ?_
  rintro e w1 ⟨rfl, hb⟩
  have B1 := Lib.hid hb
  clear hb G
  go_wp2_with (refine wpList_make_ints _ rfl _ _ 22 rfl 3 i0 Tryd.underlying22 hi hz0 hz1 hz2 _ _ 16 rfl rfl (by omega) (by omega) (by omega) ?_; intro w2 hown hb)
  obtain ⟨q, hq⟩ : ∃ q, q = w1.heap.size := ⟨_, rfl⟩
  rw [← hq] at hown ⊢
  have hqw : Hid (w.heap.size ≤ q) := Lib.hid (by rw [hq]; exact B1.out.size)
  have B2 := Lib.hid (Buf.then_ B1.out hb)
  have O2 : Hid (Buf.Own q w2 (.slice (some ⟨q, 0, none⟩) 16 16) (iv (prs x 0 ++ List.replicate (16 - 0) 0))) := Lib.hid hown
  clear hown hb hq
  go_loopw [15] (fun i wr => ∃ k : Nat, k ≤ 16 ∧ i = .int .i64 (k : Int) ∧ Hid (Buf.Own q wr (.slice (some ⟨q, 0, none⟩) 16 16) (iv (prs x k ++ List.replicate (16 - k) 0))) ∧ Hid (Below w.heap.size w wr)) (fun i _ => 16 - (intOf i).toNat)
  case atStart => exact ⟨0, by omega, rfl, O2, B2⟩
  case round =>
    clear O2 B2
    obtain ⟨k, hk, rfl, O, HB⟩ := hrel
    by_cases hlt : k < 16
    · have ki : (k : Int) < 16 := by omega
      have PY : Hid (∀ w', Calls Tryd.prog 96 #[.int .i64 x, .int .i64 (k : Int)] w' fun e w'' => e = .returned (.tuple #[.int .i64 (Ma.pr x (15 - k)), .int .i64 0]) ∧ ∃ m, w'' = w'.drewN m) := Lib.hid fun w' => by
        have h := Bits.pair_yes x (k : Int) w' x0 x1 (by omega) (by omega)
        rw [show ((15 : Int) - (k : Int)).toNat = 15 - k by omega] at h
        exact h
      go_wp2_with fail
      with_reducible refine (PY.out _).mono ?_
      rintro e w3 ⟨rfl, hm⟩
      have b3 := bel_drew hm
      have O3 := O.out.below b3
      have B3 := Lib.hid (Buf.then_ HB.out b3)
      obtain ⟨_, fk, _⟩ := row_read O3 k (by simp [prs_length]; omega)
      have ST := row_store O3 k (Ma.pr x (15 - k))
      have es : (prs x k ++ List.replicate (16 - k) 0).set k (Ma.pr x (15 - k)) = prs x (k + 1) ++ List.replicate (16 - (k + 1)) 0 := by
        rw [prs_succ, List.set_append_right _ _ (by rw [prs_length]; omega), prs_length, Nat.sub_self, show 16 - k = (16 - (k + 1)) + 1 by omega, List.replicate_succ, List.set_cons_zero, List.append_assoc]; rfl
      rw [es] at ST
      have hqs := hqw.out
      have BS := Lib.hid (B3.out.setCell (p := ⟨q, k, none⟩) hqs (.int .i64 (Ma.pr x (15 - k))))
      replace ST := Lib.hid ST
      generalize Ma.pr x (15 - k) = y at *
      clear hm b3 O3 es O HB
      go_wp2_with fail
      first
      | exact ⟨⟨k + 1, by omega, by go_num, ST, BS⟩, by simp [intOf]; omega⟩
      | (go_roundw
         case rel => exact ⟨k + 1, by omega, by go_num, ST, BS⟩
         case measure => simp [intOf]; omega)
    · obtain rfl : k = 16 := by omega
      have OW := O.out
      rw [Nat.sub_self, List.replicate_zero, List.append_nil] at OW
      obtain ⟨b, m, d, e, R⟩ := ro_own OW (by rw [prs_length]; omega) (fun a n' c' e => by injection e with _ _ e3; omega)
      injection e with e1 e2 e3
      subst e1 e2 e3
      replace R := Lib.hid R
      clear O OW
      go_wp2_with fail
      go_ret
      exact ⟨⟨_, _, rfl, R.out, fun g o e => by have := Option.some.inj e; injection this with e1 _; rw [← e1]; exact hqw.out⟩, HB.out⟩
theorem signedWord_any (A : List Int) (hA : A32 A) (h9 : A.length ≤ 1000) (k : Nat) (hk : k < A.length) (ki : Int) (hki : ki = (k : Int)) (w : World) :
    Calls Tryd.prog 72 #[.string ⟨⟨bys A⟩⟩, .int .i64 ki] w fun e w' => e = .returned (.int .i64 (Ma.sg (A.getD k 0) 2147483648 4294967296)) ∧ Below w.heap.size w w' := by
  have G := Lib.hid fun w' => get4 A hA k hk h9 (ki * 4) (by omega) w'
  obtain ⟨x0, x1⟩ := hA.getD k
  have k0 : 0 ≤ ki := by omega
  have k9 : ki ≤ 1000 := by omega
  generalize A.getD k 0 = x at *
  have S : Hid (∀ w', Calls Tryd.prog 87 #[.int .i64 x, .int .i64 32] w' fun e w'' => e = .returned (.tuple #[.int .i64 (Ma.sg x 2147483648 4294967296), .int .i64 0]) ∧ ∃ m, w'' = w'.drewN m) := Lib.hid fun w' => Bits.sign_yes x 32 w' (by omega) (by omega) x0 (by show x < 4294967296; omega)
  generalize Ma.sg x 2147483648 4294967296 = y at *
  obtain ⟨l, hl⟩ : ∃ l, l = bys A := ⟨_, rfl⟩
  rw [← hl] at G ⊢
  clear hA hl hki
  go_enter Tryd.func72, Tryd.ntmps72
  go_wp2_with fail
  with_reducible refine (G.out _).mono ?_
  rintro e w1 ⟨rfl, hb⟩
  go_wp2_with fail
  with_reducible refine (S.out _).mono ?_
  rintro e w2 ⟨rfl, hm⟩
  have b2 := bel_drew hm
  clear hm
  go_wp2_with fail
  go_ret
  exact ⟨rfl, Buf.then_ hb b2⟩
end St
end Go.Proofs.YtfebacopbacopaaDoor
