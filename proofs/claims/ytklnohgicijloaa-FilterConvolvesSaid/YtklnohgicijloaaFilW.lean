/- Contract of filter.Convolve. -/
import Derived.Test.YtklnohgicijloaaFilV
import Derived.Test.YtklnohgicijloaaFilK
import Derived.Test.YtklnohgicijloaaFilC
set_option linter.unusedVariables false
namespace Go.Proofs.Ytklnohgicijloaa
open Go.RowKit Wi Dice
namespace Fil
theorem three_a (w : World) (o p q : Obj) : (((w.alloc o).alloc p).alloc q).heap[w.heap.size]? = some o := by
  rw [heap_alloc_old _ q (by simp; omega), heap_alloc_old _ p (by simp)]; exact heap_alloc_new w o
theorem three_b (w : World) (o p q : Obj) : (((w.alloc o).alloc p).alloc q).heap[w.heap.size + 1]? = some p := by
  have e : (w.alloc o).heap.size = w.heap.size + 1 := by simp
  rw [heap_alloc_old _ q (by simp), ← e]; exact heap_alloc_new _ p
theorem three_c (w : World) (o p q : Obj) : (((w.alloc o).alloc p).alloc q).heap[w.heap.size + 1 + 1]? = some q := by
  have e : ((w.alloc o).alloc p).heap.size = w.heap.size + 1 + 1 := by simp
  rw [← e]; exact heap_alloc_new _ q
/-- The taps of a convolution while the tap i of the first filter is at work. -/
def cel (A B : Nat → Int) (nb i k j : Nat) : Int := row A B nb i j + (if i ≤ j ∧ j - i < k then A i * B (j - i) else 0)
theorem cel_zero (A B : Nat → Int) (nb i j : Nat) : cel A B nb i 0 j = row A B nb i j := by unfold cel; rw [if_neg (by omega)]; omega
theorem cel_full (A B : Nat → Int) (nb i j : Nat) : cel A B nb i nb j = row A B nb (i + 1) j := rfl
theorem cel_step (A B : Nat → Int) (nb i k j : Nat) : cel A B nb i (k + 1) j = if j = i + k then cel A B nb i k j + A i * B k else cel A B nb i k j := by
  unfold cel
  by_cases h : j = i + k
  · subst h
    rw [if_pos rfl, if_pos (by omega), if_neg (by omega), show i + k - i = k by omega]; omega
  · rw [if_neg h]
    have c : (i ≤ j ∧ j - i < k + 1) = (i ≤ j ∧ j - i < k) := by apply propext; constructor <;> intro h' <;> omega
    simp only [c]
theorem row_bd (A B : Nat → Int) (na nb i j : Nat) (hi : i ≤ na) (hA : absum A na ≤ 64) (hB : absum B nb ≤ 64) : -4096 ≤ row A B nb i j ∧ row A B nb i j ≤ 4096 := by
  have h1 := absum_row A B nb (j + 1) i
  have h2 := absum_tap (row A B nb i) j (j + 1) (by omega)
  have h3 := absum_le A i na hi
  have h4 := absum_nn A i
  have h5 := absum_nn B nb
  have h6 := Int.mul_le_mul (show absum A i ≤ 64 by omega) hB h5 (by decide)
  omega
theorem cel_bd (A B : Nat → Int) (na nb i k j : Nat) (hi : i < na) (hk : k ≤ nb) (hA : absum A na ≤ 64) (hB : absum B nb ≤ 64) : -8192 ≤ cel A B nb i k j ∧ cel A B nb i k j ≤ 8192 := by
  have h1 := row_bd A B na nb i j (by omega) hA hB
  unfold cel
  split
  · next h =>
    obtain ⟨a1, a2⟩ := absum_tap A i na hi
    obtain ⟨b1, b2⟩ := absum_tap B (j - i) nb (by omega)
    have p := prod_bd (A i) (B (j - i)) 64 (by omega) (by omega)
    have := Int.mul_le_mul_of_nonneg_right (show max (A i) (-A i) ≤ 64 by omega) (show (0 : Int) ≤ 64 by decide)
    omega
  · omega
theorem pow64 (s : Nat) (h : s ≤ 6) : (2 : Int) ^ s ≤ 64 := by
  have h1 : (2 : Nat) ^ s ≤ 2 ^ 6 := Nat.pow_le_pow_right (by decide) h
  have e : ((2 ^ s : Nat) : Int) = (2 : Int) ^ s := by rw [Int.natCast_pow]; rfl
  have e6 : (2 : Nat) ^ 6 = 64 := by decide
  omega
/-- The taps under way. -/
structure CS (w2 w : World) (n : Nat) (F : Nat → Int) (L : List Int) : Prop where
  len : L.length = n
  val : ∀ j, j < n → fn L j = F j
  own : Buf.Own w2.heap.size w (.slice (some ⟨w2.heap.size, 0, none⟩) n n) (ints L)
  bel : Below w2.heap.size w2 w
theorem CS.store {w2 w : World} {n : Nat} {A B : Nat → Int} {nb i k : Nat} {L : List Int} (h : CS w2 w n (cel A B nb i k) L) (hik : i + k < n) : CS w2 (w.setCell ⟨w2.heap.size, i + k, none⟩ (.int .i64 (fn L (i + k) + A i * B k))) n (cel A B nb i (k + 1)) (L.set (i + k) (fn L (i + k) + A i * B k)) := by
  refine ⟨by rw [List.length_set]; exact h.len, fun j hj => ?_, row_store h.own _ _, h.bel.setCell (Nat.le_refl _) _⟩
  rw [fn_set _ _ _ _ (by rw [h.len]; exact hik), cel_step]
  split
  · next e => rw [h.val _ hik, e]
  · exact h.val j hj
/-- What Convolve returns. -/
def Conved (A B : Nat → Int) (na nb s : Nat) (W : Nat) (w : World) (e : Ending) : Prop :=
  ∃ v l, e = .returned (.tuple #[.agg #[v, .int .i64 1, .int .i64 (s : Nat)], .int .i64 0]) ∧ Buf.Own W w v (ints l) ∧ l.length = na + nb - 1 ∧ ∀ j, j < na + nb - 1 → fn l j = row A B nb na j
set_option maxHeartbeats 4000000 in
set_option maxRecDepth 100000 in
theorem convolve_any {w : World} {v u : Value} {na nb sa sb : Nat} {A B : Nat → Int} (h : SV w v na A) (hx : SV w u nb B) (fa : FG na A 1 sa) (fb : FG nb B 1 sb) (na5 : na ≤ 5) (nb5 : nb ≤ 5) (sa6 : sa ≤ 6) (sb6 : sb ≤ 6) :
    Calls Try.prog 17 #[.agg #[v, .int .i64 1, .int .i64 sa], .agg #[u, .int .i64 1, .int .i64 sb]] w fun e w' => Conved A B na nb (sa + sb) w.heap.size w' e ∧ Below w.heap.size w w' := by
  have SA := Lib.hid fun w' (hb : Below w.heap.size w w') => h.below hb
  have SB := Lib.hid fun w' (hb : Below w.heap.size w w') => hx.below hb
  have FA := Lib.hid fa
  have FB := Lib.hid fb
  have n1 := fa.n1
  have n2 := fb.n1
  have aA : Hid (absum A na ≤ 64) := Lib.hid (Int.le_trans fa.sum (pow64 sa sa6))
  have aB : Hid (absum B nb ≤ 64) := Lib.hid (Int.le_trans fb.sum (pow64 sb sb6))
  obtain ⟨i0, hi, hz0, hz1, hz2⟩ := info_parts infoI
  obtain ⟨va, vc, rfl, q1, q2, _⟩ := h
  obtain ⟨ua, uc, rfl, p1, p2, _⟩ := hx
  have q2' := Lib.hid q2
  have p2' := Lib.hid p2
  clear fa fb q2 p2
  have W0 : Hid (Below w.heap.size w (((w.alloc (.cells #[.slice va na vc, .int .i64 1, .int .i64 sa] 28)).alloc (.cells #[.slice ua nb uc, .int .i64 1, .int .i64 sb] 28)).alloc (.cells #[.slice none 0 0, .int .i64 0, .int .i64 0] 28))) := Lib.hid (((new_block _).alloc (by simp) _).alloc (by simp; omega) _)
  have T2 := Lib.hid (three_a w (.cells #[.slice va na vc, .int .i64 1, .int .i64 sa] 28) (.cells #[.slice ua nb uc, .int .i64 1, .int .i64 sb] 28) (.cells #[.slice none 0 0, .int .i64 0, .int .i64 0] 28))
  have T3 := Lib.hid (three_b w (.cells #[.slice va na vc, .int .i64 1, .int .i64 sa] 28) (.cells #[.slice ua nb uc, .int .i64 1, .int .i64 sb] 28) (.cells #[.slice none 0 0, .int .i64 0, .int .i64 0] 28))
  have T4 := Lib.hid (three_c w (.cells #[.slice va na vc, .int .i64 1, .int .i64 sa] 28) (.cells #[.slice ua nb uc, .int .i64 1, .int .i64 sb] 28) (.cells #[.slice none 0 0, .int .i64 0, .int .i64 0] 28))
  go_enter Try.func17, Try.ntmps17
  go_wp2_with fail
  generalize ((w.alloc (.cells #[.slice va na vc, .int .i64 1, .int .i64 sa] 28)).alloc (.cells #[.slice ua nb uc, .int .i64 1, .int .i64 sb] 28)).alloc (.cells #[.slice none 0 0, .int .i64 0, .int .i64 0] 28) = wS at *
  refine (valid_yes (SA.out _ W0.out) FA.out).mono ?_
  rintro e w1 ⟨rfl, hb⟩
  replace T2 := Lib.hid (box3 T2.out hb)
  replace T3 := Lib.hid (box3 T3.out hb)
  replace T4 := Lib.hid (box3 T4.out hb)
  replace W0 := Lib.hid (Buf.then_ W0.out hb)
  obtain ⟨c0, c1, c2⟩ := cells3 T3.out
  clear hb
  go_wp2_with fail
  refine (valid_yes (SB.out _ W0.out) FB.out).mono ?_
  rintro e w2 ⟨rfl, hb⟩
  replace T2 := Lib.hid (box3 T2.out hb)
  replace T3 := Lib.hid (box3 T3.out hb)
  replace T4 := Lib.hid (box3 T4.out hb)
  replace W0 := Lib.hid (Buf.then_ W0.out hb)
  clear hb c0 c1 c2
  obtain ⟨c0, c1, c2⟩ := cells3 T2.out
  obtain ⟨d0, d1, d2⟩ := cells3 T3.out
  obtain ⟨n, hn⟩ : ∃ n, n = na + nb - 1 := ⟨_, rfl⟩
  have hn' : (na : Int) + (nb : Int) - 1 = (n : Int) := by omega
  have hn9 : n ≤ 9 := by omega
  replace hn := Lib.hid hn
  go_wp2_with (refine wpList_make_ints _ rfl _ _ 22 rfl 3 i0 Try.underlying22 hi hz0 hz1 hz2 _ _ n rfl rfl rfl rfl (by omega) ?_; intro w3 hown hb; have U2 := Lib.hid (box3 T2.out hb); obtain ⟨e0, e1, e2⟩ := cells3 U2.out; replace hown := Lib.hid hown; replace hb := Lib.hid hb)
  have C0 : Hid (CS w2 w3 n (row A B nb 0) (List.replicate n 0)) := Lib.hid ⟨by simp, fun j _ => by rw [fn_zero]; rfl, hown.out, hb.out⟩
  clear hown hb c0 c1 c2 d0 d1 d2 e0 e1 e2 U2 hn'
  go_wp2_with fail
  go_loopw [54] (fun c wr => ∃ (i : Nat) (L : List Int), i ≤ na ∧ c = .int .i64 i ∧ Hid (CS w2 wr n (row A B nb i) L)) (fun c _ => na - (intOf c).toNat)
  case atStart => exact ⟨0, _, by omega, rfl, C0⟩
  case round =>
    clear C0
    obtain ⟨i, L, hi', rfl, C⟩ := hrel
    have U2 := Lib.hid (box3 T2.out C.out.bel)
    have U3 := Lib.hid (box3 T3.out C.out.bel)
    by_cases hlt : i < na
    · obtain ⟨ab, aoff, rfl, ca⟩ := (SA.out _ (Buf.then_ W0.out C.out.bel)).at i hlt
      obtain ⟨d0, d1, d2⟩ := cells3 U3.out
      obtain ⟨x1, x2⟩ := absum_tap A i na hlt
      have x3 := aA.out
      have CK : Hid (CS w2 wr n (cel A B nb i 0) L) := Lib.hid ⟨C.out.len, fun j hj => by rw [cel_zero]; exact C.out.val j hj, C.out.own, C.out.bel⟩
      have x4 : -64 ≤ A i ∧ A i ≤ 64 := by omega
      clear C U2 U3 x1 x2
      obtain ⟨wo, rfl⟩ : ∃ wo, wo = wr := ⟨_, rfl⟩
      generalize hAi : A i = ai at *
      replace hAi := Lib.hid hAi
      go_wp2_with fail
      clear ca d0 d1 d2
      go_loopw [62] (fun c wr => ∃ (k : Nat) (L : List Int), k ≤ nb ∧ c = .int .i64 k ∧ Hid (CS w2 wr n (cel A B nb i k) L)) (fun c _ => nb - (intOf c).toNat)
      case atStart => exact ⟨0, L, by omega, rfl, CK⟩
      case round =>
        clear CK
        obtain ⟨k, L2, hk, rfl, C⟩ := hrel
        by_cases hlk : k < nb
        · obtain ⟨bb, boff, rfl, cb⟩ := (SB.out _ (Buf.then_ W0.out C.out.bel)).at k hlk
          obtain ⟨y1, y2⟩ := absum_tap B k nb hlk
          have y3 := aB.out
          have hik : i + k < n := by have := hn.out; omega
          obtain ⟨z1, z2, _⟩ := row_read C.out.own (i + k) (by rw [C.out.len]; exact hik)
          have z3 := cel_bd A B na nb i k (i + k) hlt hk aA.out aB.out
          have z4 : L2.getD (i + k) 0 = fn L2 (i + k) := rfl
          rw [← C.out.val _ hik] at z3
          rw [z4] at z1
          have CN := Lib.hid (C.out.store hik)
          rw [hAi.out] at CN
          have y4 : -64 ≤ B k ∧ B k ≤ 64 := by omega
          have pr := prod_bd ai (B k) 64 y4.1 y4.2
          have pr2 : max ai (-ai) * 64 ≤ 64 * 64 := Int.mul_le_mul_of_nonneg_right (by omega) (by decide)
          have pr3 : -4096 ≤ ai * B k ∧ ai * B k ≤ 4096 := by omega
          have hik' : (i : Int) + (k : Int) < n := by omega
          clear C y1 y2 z4 pr pr2
          generalize fn L2 (i + k) = old at *
          generalize B k = bk at *
          go_wp2_with fail
          go_roundw
          case rel => exact ⟨k + 1, _, by omega, by go_num, CN⟩
          case measure => simp [intOf]; omega
        · obtain rfl : k = nb := by omega
          have CF : Hid (CS w2 wr n (row A B k (i + 1)) L2) := Lib.hid ⟨C.out.len, fun j hj => by rw [← cel_full]; exact C.out.val j hj, C.out.own, C.out.bel⟩
          clear C
          go_wp2_with fail
          go_roundw
          case rel => exact ⟨i + 1, L2, by omega, by go_num, CF⟩
          case measure => simp [intOf]; omega
    · obtain rfl : i = na := by omega
      obtain ⟨c0, c1, c2⟩ := cells3 U2.out
      obtain ⟨d0, d1, d2⟩ := cells3 U3.out
      have U4 := Lib.hid (box3 T4.out C.out.bel)
      obtain ⟨f0, f1, f2⟩ := cells3 U4.out
      have r0 := frozen_of_row wr (w.heap.size + 1 + 1) 0 _ _ U4.out
      have r1 := frozen_of_row wr (w.heap.size + 1 + 1) 1 _ _ U4.out
      have r2 := frozen_of_row wr (w.heap.size + 1 + 1) 2 _ _ U4.out
      go_wp2_with fail
      have hle : w.heap.size ≤ w.heap.size + 1 + 1 := by omega
      have hsz := (Array.getElem?_eq_some_iff.1 T4.out).1
      have hW := ((((Buf.then_ W0.out C.out.bel).setCell (p := ⟨w.heap.size + 1 + 1, 0, none⟩) hle (.slice (some ⟨w2.heap.size, 0, none⟩) n n)).setCell (p := ⟨w.heap.size + 1 + 1, 1, none⟩) hle (.int .i64 1)).setCell (p := ⟨w.heap.size + 1 + 1, 2, none⟩) hle (.int .i64 ((sa : Int) + (sb : Int))))
      have hO := own_far (own_far (own_far C.out.own hsz 0 (.slice (some ⟨w2.heap.size, 0, none⟩) n n)) hsz 1 (.int .i64 1)) hsz 2 (.int .i64 ((sa : Int) + (sb : Int)))
      refine bodyPost_ret (v := .tuple #[.agg #[.slice (some ⟨w2.heap.size, 0, none⟩) n n, .int .i64 1, .int .i64 ((sa : Int) + (sb : Int))], .int .i64 0]) (by simp [results, Try.results17, go_sem, f0, f1, f2]) rfl ⟨⟨_, L, by rw [show ((sa + sb : Nat) : Int) = (sa : Int) + (sb : Int) by omega], hO.mono W0.out.size, by rw [C.out.len]; exact hn.out, fun j hj => C.out.val j (by rw [hn.out]; exact hj)⟩, hW⟩
end Fil
end Go.Proofs.Ytklnohgicijloaa
