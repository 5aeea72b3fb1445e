/- The walk of FilterImpulse. -/
import Derived.Test.YtklnohgicijloaaFilS
import Derived.Test.YtklnohgicijloaaFilK
import Derived.BigRegion
set_option linter.unusedVariables false
namespace Go.Proofs.Ytklnohgicijloaa
open Go.RowKit Wi Dice
namespace Laws
open Fil
/-- The sum of products with one impulse. -/
theorem dot_impulse (T X : Nat → Int) (i p : Nat) (q : Int) : ∀ k, (∀ j, j < k → X (i - j) = if i - j = p then q else 0) → k ≤ i + 1 → dot T X i k = if p ≤ i ∧ i < p + k then T (i - p) * q else 0 := by
  intro k
  induction k with
  | zero => intro _ _; rw [if_neg (by omega)]; rfl
  | succ k ih =>
    intro h hk
    have e : dot T X i (k + 1) = dot T X i k + T k * X (i - k) := rfl
    rw [e, ih (fun j hj => h j (by omega)) (by omega), h k (by omega)]
    by_cases h1 : i - k = p
    · rw [if_pos h1, if_neg (by omega), if_pos (by omega), show i - p = k by omega]; omega
    · rw [if_neg h1, Int.mul_zero, Int.add_zero]
      by_cases h2 : p ≤ i ∧ i < p + k
      · rw [if_pos h2, if_pos (by omega)]
      · rw [if_neg h2, if_neg (by omega)]
/-- The sum of the taps. -/
def sumT (T : Nat → Int) : Nat → Int
  | 0 => 0
  | k + 1 => sumT T k + T k
theorem sumT_bd (T : Nat → Int) : ∀ k, -absum T k ≤ sumT T k ∧ sumT T k ≤ absum T k := by
  intro k
  induction k with
  | zero => exact ⟨Int.le_refl _, Int.le_refl _⟩
  | succ k ih => unfold sumT absum; omega
theorem dot_flat (T X : Nat → Int) (i : Nat) (q : Int) : ∀ k, (∀ j, j < k → X (i - j) = q) → dot T X i k = sumT T k * q := by
  intro k
  induction k with
  | zero => intro _; simp [dot, sumT]
  | succ k ih => intro h; unfold dot sumT; rw [ih (fun j hj => h j (by omega)), h k (by omega), Int.add_mul]
/-- A list whose first numbers are all the same. -/
def flatL (c : Int) (n q : Nat) : List Int := List.replicate q c ++ List.replicate (n - q) 0
theorem flatL_len (c : Int) (n q : Nat) (h : q ≤ n) : (flatL c n q).length = n := by simp [flatL]; omega
theorem flatL_set (c : Int) (n q : Nat) (h : q < n) : (flatL c n q).set q c = flatL c n (q + 1) := by
  unfold flatL
  apply List.ext_getElem
  · simp; omega
  · intro j h1 h2
    rw [List.getElem_set]
    split
    · next e => subst e; rw [List.getElem_append_left (by simp)]; simp
    · next e =>
      by_cases hj : j < q
      · rw [List.getElem_append_left (by simpa using hj), List.getElem_append_left (by simp; omega)]; simp
      · rw [List.getElem_append_right (by simp; omega), List.getElem_append_right (by simp; omega)]; simp
theorem flatL_at (c : Int) (n j : Nat) (h : j < n) : fn (flatL c n n) j = c := by
  unfold fn flatL
  rw [List.getD_eq_getElem?_getD, List.getElem?_append_left (by simpa using h)]
  simp [h]
theorem own_store {B b x : Nat} {w : World} {v : Value} {xs : List Value} (h : Buf.Own B w v xs) (hb : b < B) (k : Nat) (u : Value) : Buf.Own B (w.setCell ⟨b, k, none⟩ u) v xs := own_far h hb k u
set_option maxHeartbeats 8000000 in
set_option maxRecDepth 100000 in
theorem filterImpulse_walk (a0 : Option Addr) (len0 cap0 : Nat) (z0 : List Int) (a1 : Int) (w : World) (w0 : Buf.IsRow .i64 w a0 len0 cap0 z0) (w1 : (Lit.int .u8 a1).wf = true) :
    Calls Try.prog 3 #[.slice a0 len0 cap0, .int .u8 a1] w fun e w' => e = .returned (.bool true) ∧ Below w.heap.size w w' := by
  obtain ⟨b0, b1⟩ := Ma.wf_u8 w1
  clear w1
  obtain ⟨i0, hi, hz0, hz1, hz2⟩ := info_parts infoI
  by_cases hs : len0 ≤ 500
  · have hd : decide ((len0 : Int) ≤ 500) = true := by simp; omega
    go_enter Try.func3, Try.ntmps3
    go_wp2_with (first | (go_at_call 9; refine (light_any _ _ _ _).mono ?_; rintro e w1 ⟨rfl, rfl⟩; rw [hd]) | (go_at_call 11; refine (roll_any a0 len0 cap0 z0 _ w0 hs).mono ?_; rintro e w2 ⟨rfl, hdi⟩))
    refine (filter_any hdi).mono ?_
    rintro e w3 ⟨⟨v, l, fac, s, rfl, ho, fg, hl5, hf3, hs6⟩, hl⟩
    have W3 := Lib.hid hl.di.bel
    have hw13 : w1.heap.size ≤ w3.heap.size := hl.di.bel.size
    obtain ⟨va, vc, rfl⟩ := own_len ho
    rw [ints_len] at ho ⊢
    have T3 := Lib.hid (heap_alloc_new w3 (.cells #[.slice va l.length vc, .int .i64 fac, .int .i64 s] 28))
    have O3 := Lib.hid (ho.below (new_block (.cells #[.slice va l.length vc, .int .i64 fac, .int .i64 s] 28)))
    have FG1 := Lib.hid (fg.fac 1 (by decide) (by decide))
    have n1 := fg.n1
    have W4 := Lib.hid (Buf.then_ W3.out (new_block (.cells #[.slice va l.length vc, .int .i64 1, .int .i64 s] 28)))
    have S4 := Lib.hid ((sv_own ho).below (new_block (.cells #[.slice va l.length vc, .int .i64 1, .int .i64 s] 28)))
    have T4 := Lib.hid (heap_alloc_new w3 (.cells #[.slice va l.length vc, .int .i64 1, .int .i64 s] 28))
    have h34 : (w3.alloc (.cells #[.slice va l.length vc, .int .i64 1, .int .i64 s] 28)).heap.size = w3.heap.size + 1 := by simp
    clear hl hdi ho fg T3 O3
    generalize fn l = T at *
    generalize l.length = k at *
    obtain ⟨q0, q1⟩ := pow_bd30 s (by omega)
    have q2 : (2 : Int) ^ s ≤ 64 := by
      have h1 : (2 : Nat) ^ s ≤ 2 ^ 6 := Nat.pow_le_pow_right (by decide) hs6
      have e : ((2 ^ s : Nat) : Int) = (2 : Int) ^ s := by rw [Int.natCast_pow]; rfl
      have e6 : (2 : Nat) ^ 6 = 64 := by decide
      omega
    obtain ⟨r, hr⟩ : ∃ r : Nat, a1 % (k : Int) = (r : Int) := ⟨(a1 % (k : Int)).toNat, by have := Int.emod_nonneg a1 (show (k : Int) ≠ 0 by omega); omega⟩
    have hrk : r < k := by have := Int.emod_lt_of_pos a1 (show (0 : Int) < k by omega); omega
    obtain ⟨p, hp⟩ : ∃ p : Nat, 2 * (k : Int) - 1 - (r : Int) = (p : Int) := ⟨2 * k - 1 - r, by omega⟩
    have hkp : k ≤ p ∧ p < 2 * k := by omega
    have hk3 : (3 : Int) * (k : Int) = ((3 * k : Nat) : Int) := by omega
    replace hk3 := Lib.hid hk3
    go_wp2_with (refine wpList_make_ints _ rfl _ _ 22 rfl 3 i0 Try.underlying22 hi hz0 hz1 hz2 _ _ (3 * k) rfl rfl hk3.out hk3.out (by omega) ?_; intro w5 hown hb; obtain ⟨x1, x2, _⟩ := row_read hown p (by simp; omega); replace hown := Lib.hid hown; replace hb := Lib.hid hb)
    generalize hwS : w3.alloc (.cells #[.slice va k vc, .int .i64 1, .int .i64 s] 28) = wS at *
    rw [h34] at hown x1 x2
    replace h34 := Lib.hid h34
    have T5 := Lib.hid (box3 T4.out hb.out)
    obtain ⟨c1, c2, c3⟩ := cells3 T5.out
    have X5 := Lib.hid (row_store hown.out p (2 ^ s))
    have B5 : Hid (Below wS.heap.size wS (w5.setCell ⟨w3.heap.size + 1, p, none⟩ (.int .i64 (2 ^ s)))) := Lib.hid (hb.out.setCell (by rw [h34.out]; exact Nat.le_refl _) _)
    have hLx : ((List.replicate (3 * k) (0 : Int)).set p (2 ^ s)).length = 3 * k := by simp
    have fX : ∀ j, fn ((List.replicate (3 * k) (0 : Int)).set p (2 ^ s)) j = if j = p then 2 ^ s else 0 := fun j => by rw [fn_set _ _ _ _ (by simp; omega), fn_zero]
    generalize hLL : (List.replicate (3 * k) (0 : Int)).set p (2 ^ s) = LX at *
    replace fX := Lib.hid fX
    replace hLx := Lib.hid hLx
    clear hown hb hLL
    have hp3 : p < 3 * k := by omega
    go_wp2_with fail
    go_region
    have X6 := Lib.hid (X5.out.drew)
    have B6 := Lib.hid (B5.out.drew)
    generalize (w5.setCell ⟨w3.heap.size + 1, p, none⟩ (.int .i64 (2 ^ s))).drew = w6 at *
    clear X5 B5 T5 c1 c2 c3 x1 x2
    have T6 := Lib.hid (box3 T4.out B6.out)
    have S6 := Lib.hid (S4.out.below B6.out)
    obtain ⟨c1, c2, c3⟩ := cells3 T6.out
    have SX : Hid (SV w6 (.slice (some ⟨w3.heap.size + 1, 0, none⟩) (3 * k) (3 * k)) (3 * k) (fn LX)) := Lib.hid (by have := sv_own X6.out; rwa [hLx.out] at this)
    have XB : ∀ j, j < 3 * k → -1073741823 ≤ fn LX j ∧ fn LX j ≤ 1073741823 := fun j _ => by rw [fX.out j]; split <;> omega
    have YL : Hid ((outs T (fn LX) k s 1 0 (3 * k)).length = 2 * k + 1) := Lib.hid (by rw [outs_one_len _ _ _ _ _ _ (by omega)]; omega)
    have YA : Hid (∀ i, i < 2 * k + 1 → fn (outs T (fn LX) k s 1 0 (3 * k)) i = if p ≤ k - 1 + i ∧ k - 1 + i < p + k then T (k - 1 + i - p) else 0) := Lib.hid fun i hi => by
      have h1 : fn (outs T (fn LX) k s 1 0 (3 * k)) i = dot T (fn LX) (k - 1 + i) k / 2 ^ s := outs_one_at T (fn LX) k s 0 (3 * k) i (by omega) (by omega)
      rw [h1, dot_impulse T (fn LX) (k - 1 + i) p (2 ^ s) k (fun j _ => fX.out _) (by omega)]
      split
      · exact Int.mul_ediv_cancel _ (by omega)
      · simp
    have TB : Hid (∀ j, j < k → -64 ≤ T j ∧ T j ≤ 64) := Lib.hid fun j hj => by
      have := absum_tap T j k hj; have := FG1.out.sum; omega
    have SB : Hid (∀ j, j ≤ k → -64 ≤ sumT T j ∧ sumT T j ≤ 64) := Lib.hid fun j hj => by
      have := sumT_bd T j; have := absum_le T j k hj; have := FG1.out.sum; omega
    go_wp2_with fail
    refine (apply_any 0 S6.out SX.out FG1.out (by omega) XB (by decide) (by decide)).mono ?_
    rintro e w7 ⟨⟨y, rfl, hy⟩, hb⟩
    replace B6 := Lib.hid (Buf.then_ B6.out hb)
    have Y0 := Lib.hid (sv_own hy)
    rw [YL.out] at Y0
    obtain ⟨ya, yc, rfl, yc1, yc2, yc3⟩ := Y0.out
    generalize fn (outs T (fn LX) k s 1 0 (3 * k)) = Y at *
    clear hb hy X6 SX XB YL T6 S6 c1 c2 c3 fX hLx
    have T7 := Lib.hid (box3 T4.out B6.out)
    have S7 := S4.out.below B6.out
    obtain ⟨ta, tc, he, tc1, tc2, tc3⟩ := S7
    injection he with he1 he2 he3
    subst he1 he3
    replace yc3 := Lib.hid yc3
    replace tc3 := Lib.hid tc3
    have hl2 : 2 * (k : Int) + 1 = ((2 * k + 1 : Nat) : Int) := by omega
    have elen : (((2 * k + 1 : Nat) : Int) == 2 * (k : Int) + 1) = true := by simp
    replace hl2 := Lib.hid hl2
    clear yc2 tc2
    obtain ⟨c1, c2, c3⟩ := cells3 T7.out
    go_wp2_with fail
    go_loop [80] (fun i => ∃ q : Nat, q ≤ 2 * k + 1 ∧ i = .int .i64 q) (fun i => 2 * k + 1 - (intOf i).toNat)
    case atStart => exact ⟨0, by omega, rfl⟩
    case round =>
      obtain ⟨q, hq, rfl⟩ := hrel
      by_cases hlt : q < 2 * k + 1
      · obtain ⟨b, off, rfl, _, hc⟩ := yc3.out (by omega)
        obtain ⟨tb, toff, rfl, _, htc⟩ := tc3.out (by omega)
        have cy := hc q hlt
        have hya := YA.out q hlt
        generalize Y q = yv at cy hya
        have hlt' : (q : Int) < 2 * (k : Int) + 1 := by omega
        by_cases hcond : p ≤ k - 1 + q ∧ k - 1 + q < p + k
        · rw [if_pos hcond] at hya
          have ct := htc (k - 1 + q - p) (by omega)
          have htb := TB.out (k - 1 + q - p) (by omega)
          rw [← hya] at ct htb
          have ej : (k : Int) - 1 + (q : Int) - (p : Int) = ((k - 1 + q - p : Nat) : Int) := by omega
          have hjk : k - 1 + q - p < k := by omega
          have hjk' : ((k - 1 + q - p : Nat) : Int) < k := by omega
          have eyy : (yv == yv) = true := by simp
          clear hya hc htc hcond
          generalize k - 1 + q - p = jj at *
          go_wp2_with fail
          go_round
          case rel => exact ⟨q + 1, by omega, by go_num⟩
          case measure => simp [intOf]; omega
        · rw [if_neg hcond] at hya
          subst hya
          clear hc htc
          by_cases h0 : 0 ≤ (k : Int) - 1 + (q : Int) - (p : Int)
          · have h1 : (k : Int) ≤ (k : Int) - 1 + (q : Int) - (p : Int) := by omega
            have h2 : ¬ (k : Int) - 1 + (q : Int) - (p : Int) < (k : Int) := by omega
            clear hcond
            go_wp2_with fail
            first
              | exact ⟨⟨_, _, _, _, _, _, ⟨q + 1, by omega, by go_num⟩, rfl, rfl, rfl, rfl, rfl, rfl⟩, by simp [intOf]; omega⟩
              | (go_round
                 case rel => exact ⟨q + 1, by omega, by go_num⟩
                 case measure => simp [intOf]; omega)
          · have h1 : (k : Int) - 1 + (q : Int) - (p : Int) < 0 := by omega
            clear hcond
            go_wp2_with fail
            first
              | exact ⟨⟨_, _, _, _, _, _, ⟨q + 1, by omega, by go_num⟩, rfl, rfl, rfl, rfl, rfl, rfl⟩, by simp [intOf]; omega⟩
              | (go_round
                 case rel => exact ⟨q + 1, by omega, by go_num⟩
                 case measure => simp [intOf]; omega)
      · obtain rfl : q = 2 * k + 1 := by omega
        clear yc3 YA
        go_wp2_with fail
        go_loop [12, 110] (fun u i => ∃ q : Nat, q ≤ k ∧ u = .int .i64 (sumT T q) ∧ i = .int .i64 q) (fun _ i => k - (intOf i).toNat)
        case atStart => exact ⟨0, by omega, rfl, rfl⟩
        case round =>
          obtain ⟨q, hq, rfl, rfl⟩ := hrel
          by_cases hlt : q < k
          · obtain ⟨tb, toff, rfl, _, htc⟩ := tc3.out (by omega)
            have ct := htc q hlt
            have htb := TB.out q hlt
            have hsb := SB.out q hq
            have e1 : Hid (sumT T (q + 1) = sumT T q + T q) := Lib.hid rfl
            generalize sumT T q = sq at *
            generalize T q = tq at *
            clear htc
            go_wp2_with fail
            go_round
            case rel => exact ⟨q + 1, by omega, by rw [e1.out], by go_num⟩
            case measure => simp [intOf]; omega
          · obtain rfl : q = k := by omega
            have hsb := SB.out q hq
            have h37 := h34.out
            have hk3' : (q : Int) + 3 = ((q + 3 : Nat) : Int) := by omega
            replace hk3' := Lib.hid hk3'
            go_wp2_with (refine wpList_make_ints _ rfl _ _ 22 rfl 3 i0 Try.underlying22 hi hz0 hz1 hz2 _ _ (q + 3) rfl rfl hk3'.out hk3'.out (by omega) ?_; intro w8 hown hb; replace hown := Lib.hid hown; replace hb := Lib.hid hb)
            have T8 := Lib.hid fun (w9 : World) (h : Below w7.heap.size w7 w9) => box3 T4.out (Buf.then_ B6.out h)
            have S8 := Lib.hid fun (w9 : World) (h : Below w7.heap.size w7 w9) => S4.out.below (Buf.then_ B6.out h)
            have F0 : Hid (Buf.Own w7.heap.size w8 (.slice (some ⟨w7.heap.size, 0, none⟩) (q + 3) (q + 3)) (ints (flatL (a1 * 2 ^ s) (q + 3) 0))) := Lib.hid (by simpa [flatL] using hown.out)
            have hcb : 0 ≤ a1 * 2 ^ s ∧ a1 * 2 ^ s ≤ 16320 := by
              have u1 := Int.mul_le_mul b1 q2 (by omega) (by decide)
              have u2 := Int.mul_nonneg b0 (show (0 : Int) ≤ 2 ^ s by omega)
              omega
            clear hown T7 c1 c2 c3 tc3 TB
            go_wp2_with fail
            go_loopw [123] (fun i wr => ∃ j : Nat, j ≤ q + 3 ∧ i = .int .i64 j ∧ Hid (Buf.Own w7.heap.size wr (.slice (some ⟨w7.heap.size, 0, none⟩) (q + 3) (q + 3)) (ints (flatL (a1 * 2 ^ s) (q + 3) j))) ∧ Hid (Below w7.heap.size w7 wr)) (fun i _ => q + 3 - (intOf i).toNat)
            case atStart => exact ⟨0, by omega, rfl, F0, hb⟩
            case round =>
              clear F0 hb
              obtain ⟨j, hj, rfl, F, hb⟩ := hrel
              by_cases hlj : j < q + 3
              · obtain ⟨c1, c2, c3⟩ := cells3 (T8.out _ hb.out)
                obtain ⟨x1, x2, _⟩ := row_read F.out j (by rw [flatL_len _ _ _ hj]; exact hlj)
                have FS := Lib.hid (row_store F.out j (a1 * 2 ^ s))
                rw [flatL_set _ _ _ hlj] at FS
                have BS : Hid (Below w7.heap.size w7 (wr.setCell ⟨w7.heap.size, j, none⟩ (.int .i64 (a1 * 2 ^ s)))) := Lib.hid (hb.out.setCell (Nat.le_refl _) _)
                have hlj' : (j : Int) < (q : Int) + 3 := by omega
                go_wp2_with fail
                go_roundw
                case rel => exact ⟨j + 1, by omega, by go_num, FS, BS⟩
                case measure => simp [intOf]; omega
              · obtain rfl : j = q + 3 := by omega
                have SF : Hid (SV wr (.slice (some ⟨w7.heap.size, 0, none⟩) (q + 3) (q + 3)) (q + 3) (fn (flatL (a1 * 2 ^ s) (q + 3) (q + 3)))) := Lib.hid (by have := sv_own F.out; rwa [flatL_len _ _ _ (Nat.le_refl _)] at this)
                have fF := Lib.hid fun i hi => flatL_at (a1 * 2 ^ s) (q + 3) i hi
                generalize fn (flatL (a1 * 2 ^ s) (q + 3) (q + 3)) = FF at *
                have XB : ∀ i, i < q + 3 → -1073741823 ≤ FF i ∧ FF i ≤ 1073741823 := fun i hi => by rw [fF.out i hi]; omega
                have YL : Hid ((outs T FF q s 1 0 (q + 3)).length = 4) := Lib.hid (by rw [outs_one_len _ _ _ _ _ _ (by omega)]; omega)
                have YA : Hid (∀ i, i < 4 → fn (outs T FF q s 1 0 (q + 3)) i = sumT T q * a1) := Lib.hid fun i hi => by
                  have h1 : fn (outs T FF q s 1 0 (q + 3)) i = dot T FF (q - 1 + i) q / 2 ^ s := outs_one_at T FF q s 0 (q + 3) i (by omega) (by omega)
                  rw [h1, dot_flat T FF (q - 1 + i) (a1 * 2 ^ s) q (fun j hj => fF.out _ (by omega)), ← Int.mul_assoc]
                  exact Int.mul_ediv_cancel _ (by omega)
                obtain ⟨c1, c2, c3⟩ := cells3 (T8.out _ hb.out)
                go_wp2_with fail
                refine (apply_any 0 (S8.out _ hb.out) SF.out FG1.out (by omega) XB (by decide) (by decide)).mono ?_
                rintro e w9 ⟨⟨z, rfl, hz⟩, hb2⟩
                have W9 := Lib.hid (Buf.then_ W4.out (Buf.then_ B6.out (Buf.then_ hb.out hb2)))
                have Z0 := Lib.hid (sv_own hz)
                rw [YL.out] at Z0
                obtain ⟨za, zc, rfl, zc1, zc2, zc3⟩ := Z0.out
                generalize fn (outs T FF q s 1 0 (q + 3)) = Z at *
                replace zc3 := Lib.hid zc3
                have hprod : -16320 ≤ sumT T q * a1 ∧ sumT T q * a1 ≤ 16320 := by
                  have u := prod_bd (sumT T q) a1 255 (by omega) b1
                  have v : max (sumT T q) (-sumT T q) * 255 ≤ 64 * 255 := Int.mul_le_mul_of_nonneg_right (by omega) (by decide)
                  omega
                clear hz hb2 c1 c2 c3 SF fF XB YL F hb T8 S8 zc2
                generalize sumT T q = sq at *
                go_wp2_with fail
                go_loop [144] (fun i => ∃ j : Nat, j ≤ 4 ∧ i = .int .i64 j) (fun i => 4 - (intOf i).toNat)
                case atStart => exact ⟨0, by omega, rfl⟩
                case round =>
                  obtain ⟨j, hj, rfl⟩ := hrel
                  by_cases hlz : j < 4
                  · obtain ⟨zb, zoff, rfl, _, hzc⟩ := zc3.out (by omega)
                    have cz := hzc j hlz
                    rw [YA.out j hlz] at cz
                    have ezz : (sq * a1 == sq * a1) = true := by simp
                    have hlz' : (j : Int) < 4 := by omega
                    clear hzc
                    go_wp2_with fail
                    first
                      | exact ⟨⟨_, _, _, ⟨j + 1, by omega, by go_num⟩, rfl, rfl, rfl⟩, by simp [intOf]; omega⟩
                      | (go_round
                         case rel => exact ⟨j + 1, by omega, by go_num⟩
                         case measure => simp [intOf]; omega)
                  · obtain rfl : j = 4 := by omega
                    clear zc3 YA
                    go_wp2_with (go_at_call 10; refine (Fil.sane_any _).mono ?_; rintro e w10 ⟨rfl, hb⟩)
                    go_ret
                    exact ⟨rfl, Buf.then_ W9.out hb⟩
  · have hd : decide ((len0 : Int) ≤ 500) = false := by simp; omega
    go_enter Try.func3, Try.ntmps3
    go_wp2_with (first | (go_at_call 9; refine (light_any _ _ _ _).mono ?_; rintro e w1 ⟨rfl, rfl⟩; rw [hd]) | (go_at_call 10; refine (Fil.sane_any _).mono ?_; rintro e w2 ⟨rfl, hb⟩))
    go_ret
    exact ⟨rfl, hb⟩
end Laws
end Go.Proofs.Ytklnohgicijloaa
