/- Contracts of package response for such stages; slices.Clone. -/
import Derived.Test.YtmnafkfjmeoklaaFilT
import Derived.Lib.SliceRun
set_option linter.unusedVariables false
namespace Go.Proofs.Ytmnafkfjmeoklaa
open Go.RowKit Wi Dice
namespace Fil
def psum (X : Nat → Int) : Nat → Int
  | 0 => 0
  | k + 1 => psum X k + X k
theorem psum_bd (X : Nat → Int) (n : Nat) (hX : ∀ j, j < n → 0 ≤ X j ∧ X j ≤ 4) : 0 ≤ psum X n ∧ psum X n ≤ 4 * n := by
  induction n with
  | zero => simp [psum]
  | succ k ih =>
    have a := ih (fun j hj => hX j (by omega))
    have b := hX k (by omega)
    simp only [psum]; omega
theorem psum_take (l : List Int) (k : Nat) (hk : k ≤ l.length) : psum (fn l) k = (l.take k).sum := by
  induction k with
  | zero => simp [psum]
  | succ k ih =>
    have e : fn l k = l[k]'(by omega) := by simp [fn, List.getD_eq_getElem?_getD, List.getElem?_eq_getElem (show k < l.length by omega)]
    rw [psum, ih (by omega), List.take_succ_eq_append_getElem (show k < l.length by omega), List.sum_append, e]; simp
theorem psum_all (l : List Int) : psum (fn l) l.length = l.sum := by rw [psum_take l _ (Nat.le_refl _), List.take_length]
theorem Taps.at {l : List Int} (h : Taps l) (j : Nat) (hj : j < l.length) : 0 ≤ fn l j ∧ fn l j ≤ 4 := by
  have e : fn l j = l[j] := by simp [fn, List.getD_eq_getElem?_getD, List.getElem?_eq_getElem hj]
  rw [e]; exact h.bd _ (List.getElem_mem hj)
theorem absum_psum (X : Nat → Int) (n : Nat) (hX : ∀ j, j < n → 0 ≤ X j ∧ X j ≤ 4) : absum X n = psum X n := by
  induction n with
  | zero => rfl
  | succ k ih =>
    have b := hX k (by omega)
    show absum X k + max (X k) (-X k) = psum X k + X k
    rw [ih (fun j hj => hX j (by omega))]; omega
theorem allWithin_any {w : World} {v : Value} {n : Nat} {X : Nat → Int} (h : SV w v n X) (hn : n ≤ 1000000) (hX : ∀ j, j < n → -1048576 ≤ X j ∧ X j ≤ 1048576) :
    Calls Try.prog 39 #[v, .int .i64 1048576] w fun e w' => e = .returned (.bool true) ∧ Below w.heap.size w w' := by
  obtain ⟨a, c, rfl, h1, h2, h3⟩ := h
  have H3 := Lib.hid h3
  have HX := Lib.hid hX
  clear h3 hX h2
  go_enter Try.func39, Try.ntmps39
  go_wp2_with fail
  go_loopw [9] (fun i wr => ∃ k : Nat, k ≤ n ∧ i = .int .i64 k ∧ Hid (Below w.heap.size w wr)) (fun i _ => n - (intOf i).toNat)
  case atStart => exact ⟨0, by omega, rfl, Lib.hid (Below.refl _ _)⟩
  case round =>
    obtain ⟨k, hk, rfl, hb⟩ := hrel
    by_cases hlt : k < n
    · obtain ⟨b, off, rfl, hbl, hc⟩ := H3.out (by omega)
      have c1 : wr.cell? ⟨b, off + k, none⟩ = some (.int .i64 (X k)) := by rw [hb.out.cell (p := ⟨b, off + k, none⟩) hbl]; exact hc k hlt
      obtain ⟨x1, x2⟩ := HX.out k hlt
      generalize X k = x at c1 x1 x2
      clear hc
      go_wp2_with (go_at_call 27; refine (within_yes _ _ _ _ (by omega) (by omega)).mono ?_; rintro e w' ⟨rfl, m, rfl⟩)
      go_roundw
      case rel => exact ⟨k + 1, by omega, by go_num, Lib.hid (Buf.below_drewN hb.out _)⟩
      case measure => simp [intOf]; omega
    · obtain rfl : k = n := by omega
      go_wp2_with fail
      go_ret
      exact ⟨rfl, hb.out⟩
theorem sum_any {w : World} {v : Value} {n : Nat} {X : Nat → Int} (h : SV w v n X) (hn : n ≤ 1000) (hX : ∀ j, j < n → 0 ≤ X j ∧ X j ≤ 4) :
    Calls Try.prog 51 #[v] w fun e w' => e = .returned (.int .i64 (psum X n)) ∧ Below w.heap.size w w' := by
  obtain ⟨a, c, rfl, h1, h2, h3⟩ := h
  have H3 := Lib.hid h3
  have HX := Lib.hid hX
  have HP := Lib.hid fun k (hk : k ≤ n) => psum_bd X k (fun j hj => hX j (by omega))
  clear h3 hX h2
  go_enter Try.func51, Try.ntmps51
  go_wp2_with fail
  go_loopw [3, 8] (fun u i wr => ∃ k : Nat, k ≤ n ∧ u = .int .i64 (psum X k) ∧ i = .int .i64 k ∧ Hid (Below w.heap.size w wr)) (fun _ i _ => n - (intOf i).toNat)
  case atStart => exact ⟨0, by omega, rfl, rfl, Lib.hid (Below.refl _ _)⟩
  case round =>
    obtain ⟨k, hk, rfl, rfl, hb⟩ := hrel
    by_cases hlt : k < n
    · obtain ⟨b, off, rfl, hbl, hc⟩ := H3.out (by omega)
      have c1 : wr.cell? ⟨b, off + k, none⟩ = some (.int .i64 (X k)) := by rw [hb.out.cell (p := ⟨b, off + k, none⟩) hbl]; exact hc k hlt
      obtain ⟨x1, x2⟩ := HX.out k hlt
      obtain ⟨p1, p2⟩ := HP.out k hk
      have e1 : Hid (psum X (k + 1) = psum X k + X k) := Lib.hid rfl
      generalize psum X k = s at *
      generalize X k = x at *
      clear hc
      go_wp2_with fail
      go_roundw
      case rel => exact ⟨k + 1, by omega, by rw [e1.out], by go_num, hb⟩
      case measure => simp [intOf]; omega
    · obtain rfl : k = n := by omega
      go_wp2_with fail
      go_ret
      exact ⟨rfl, hb.out⟩
theorem clone_any {w : World} {B : Nat} {v : Value} {l : List Int} (h : w.ownsRow B 3 1 v l.length (ints l)) (h1 : 1 ≤ l.length) (h9 : l.length ≤ 1000) :
    Calls Try.prog 26 #[v] w fun e w' => (∃ g c, e = .returned (.slice (some ⟨g, 0, none⟩) l.length c) ∧ w'.ownsRow w.heap.size 3 1 (.slice (some ⟨g, 0, none⟩) l.length c) l.length (ints l)) ∧ Below w.heap.size w w' := by
  obtain ⟨i0, hi, hz0, hz1, hz2⟩ := info_parts infoI
  obtain ⟨gv, cv, rfl, hg1, hg2⟩ := h.form (by omega)
  have hnw := Lib.hid ((h.alloc (.cells #[] 3)).cells (g := gv) rfl)
  have hll : Hid ((ints l).length = l.length * 1) := Lib.hid (by rw [ints_len]; omega)
  have hon : Hid (∀ u ∈ ints l, u.oneCell' = true) := Lib.hid (by intro u hu; simp [ints] at hu; obtain ⟨z, _, rfl⟩ := hu; rfl)
  have hlit : Hid ((w.alloc (.cells #[] 3)).ownsRow w.heap.size 3 1 (.slice (some ⟨w.heap.size, 0, none⟩) 0 0) 0 []) := Lib.hid (World.ownsRow_lit w #[] 0 (Nat.le_refl _) (by decide) rfl)
  have m1 : Hid (0 + l.length ≤ maxLen) := Lib.hid (by unfold maxLen; omega)
  have hsa : Hid ((w.alloc (.cells #[] 3)).heap.size = w.heap.size + 1) := Lib.hid (by simp)
  have qT : ∀ (w : World), (binOp .eql 22 (.slice (some ⟨gv, 0, none⟩) l.length cv) (.slice none 0 0)).run Try.prog w = .ok (.bool false) w := fun w => Lib.run_eql_slice_nil w _ _ _ _ _ _ _ Try.underlying22
  clear h
  go_enter Try.func26, Try.ntmps26
  go_wp2_with (at_builtin; refine wpList_append_lies _ rfl _ _ 22 rfl w.heap.size 3 i0 (.int .i64 0) 1 8 Try.underlying22 hi hz0 hz1 hz2 rfl (by decide) (.slice (some ⟨w.heap.size, 0, none⟩) 0 0) 0 [] rfl hlit.out ⟨gv, 0, none⟩ l.length cv (ints l) rfl hll.out hnw.out hon.out (by omega) m1.out (by omega) (by simp) _ rfl ?_; intro g10 c10 w10 hown hgrow hat hlt10)
  go_ret
  have B1 : Below w.heap.size w w10 := ((Below.refl _ w).alloc (Nat.le_refl _) _).grown hgrow (by rw [hsa.out]; omega) (fun k hk => by simp [Value.ownBlock] at hk; omega)
  rw [Nat.zero_add] at *
  exact ⟨⟨g10, c10, rfl, by simpa using hown⟩, B1⟩
theorem eq3 (w : World) : (binOp .eql 27 (.agg #[.int .i64 0, .int .i64 0, .int .i64 0]) (.agg #[.int .i64 0, .int .i64 0, .int .i64 0])).run Try.prog w = .ok (.bool true) w := by kernel_rfl
theorem isZero_any (w : World) : Calls Try.prog 50 #[.agg #[.int .i64 0, .int .i64 0, .int .i64 0]] w fun e w' => e = .returned (.bool true) ∧ Below w.heap.size w w' := by
  go_enter Try.func50, Try.ntmps50
  have hb := Lib.hid (new_block (w := w) (.cells #[.int .i64 0, .int .i64 0, .int .i64 0] 27))
  have q := eq3
  go_wp2_with fail
  go_ret
  exact ⟨rfl, hb.out⟩
theorem validFilter_any {w : World} {v : Value} {l : List Int} {fac : Int} {s : Nat} (h : SV w v l.length (fn l)) (ht : Taps l) (h6 : l.length ≤ 6) (f1 : 1 ≤ fac) (f2 : fac ≤ 5) (s4 : s ≤ 4) :
    Calls Try.prog 40 #[stage 2 0 0 0 0 0 0 v fac s] w fun e w' => e = .returned (.bool true) ∧ Below w.heap.size w w' := by
  have n1 := ht.n1
  have AW := Lib.hid fun w' (hb : Below w.heap.size w w') => allWithin_any (h.below hb) (by omega) (fun j hj => by have := ht.at j hj; omega)
  have SA := Lib.hid fun w' (hb : Below w.heap.size w w') => sum_any (h.below hb) (by omega) (fun j hj => ht.at j hj)
  have hp : psum (fn l) l.length = l.sum := psum_all l
  have hp1 := ht.pos
  have hp2 := (psum_bd (fn l) l.length (fun j hj => ht.at j hj)).2
  rw [hp] at hp2
  rw [hp] at SA
  generalize l.sum = S at *
  have hS : (S != 0) = true := by simp; omega
  obtain ⟨a, c, rfl, h1, h2, _⟩ := h
  have B0 := Lib.hid (heap_alloc_new w (.cells (sc 2 0 0 0 0 0 0 (.slice a l.length c) fac s) 29))
  have W0 := Lib.hid (new_block (w := w) (.cells (sc 2 0 0 0 0 0 0 (.slice a l.length c) fac s) 29))
  unfold sc at B0 W0
  unfold stage sc
  go_enter Try.func40, Try.ntmps40
  go_wp2_with fail
  generalize w.alloc (.cells #[.int .i64 2, .int .i64 0, .int .i64 0, .int .i64 0, .int .i64 0, .int .i64 0, .int .i64 0, .slice a l.length c, .int .i64 fac, .int .i64 s] 29) = w1 at *
  refine (isZero_any w1).mono ?_
  rintro e w2 ⟨rfl, hb⟩
  replace B0 := Lib.hid ((hb.block _ (Array.getElem?_eq_some_iff.1 B0.out).1).trans B0.out)
  replace W0 := Lib.hid (Buf.then_ W0.out hb)
  clear hb
  obtain ⟨⟨c0, c1, c2, c3, c4⟩, c5, c6, c7, c8, c9⟩ := cells10 B0.out
  go_wp2_with fail
  refine (isZero_any w2).mono ?_
  rintro e w3 ⟨rfl, hb⟩
  replace B0 := Lib.hid ((hb.block _ (Array.getElem?_eq_some_iff.1 B0.out).1).trans B0.out)
  replace W0 := Lib.hid (Buf.then_ W0.out hb)
  clear hb c0 c1 c2 c3 c4 c5 c6 c7 c8 c9
  obtain ⟨⟨c0, c1, c2, c3, c4⟩, c5, c6, c7, c8, c9⟩ := cells10 B0.out
  go_wp2_with (go_at_call 27; refine (within_yes _ _ _ _ (by omega) (by omega)).mono ?_; rintro e w4 ⟨rfl, m, rfl⟩)
  have BB : Hid ((w3.drewN m).heap[w.heap.size]? = some (.cells #[.int .i64 2, .int .i64 0, .int .i64 0, .int .i64 0, .int .i64 0, .int .i64 0, .int .i64 0, .slice a l.length c, .int .i64 fac, .int .i64 s] 29 (0, 0))) := B0
  have WW := Lib.hid (Buf.below_drewN W0.out m)
  refine (AW.out _ WW.out).mono ?_
  rintro e w4 ⟨rfl, hb⟩
  replace B0 := Lib.hid ((hb.block _ (Array.getElem?_eq_some_iff.1 BB.out).1).trans BB.out)
  replace W0 := Lib.hid (Buf.then_ WW.out hb)
  clear hb c0 c1 c2 c3 c4 c5 c6 c7 c8 c9 BB WW
  obtain ⟨⟨c0, c1, c2, c3, c4⟩, c5, c6, c7, c8, c9⟩ := cells10 B0.out
  go_wp2_with fail
  refine (SA.out _ W0.out).mono ?_
  rintro e w5 ⟨rfl, hb⟩
  replace B0 := Lib.hid ((hb.block _ (Array.getElem?_eq_some_iff.1 B0.out).1).trans B0.out)
  replace W0 := Lib.hid (Buf.then_ W0.out hb)
  clear hb c0 c1 c2 c3 c4 c5 c6 c7 c8 c9
  obtain ⟨⟨c0, c1, c2, c3, c4⟩, c5, c6, c7, c8, c9⟩ := cells10 B0.out
  go_wp2_with (go_at_call 27; refine (within_yes _ _ _ _ (by omega) (by omega)).mono ?_; rintro e w6 ⟨rfl, m6, rfl⟩)
  go_ret
  exact ⟨rfl, Buf.below_drewN W0.out _⟩
theorem validStage_any {w : World} {v : Value} {l : List Int} {fac : Int} {s : Nat} (h : SV w v l.length (fn l)) (ht : Taps l) (h6 : l.length ≤ 6) (f1 : 1 ≤ fac) (f2 : fac ≤ 5) (s4 : s ≤ 4) :
    Calls Try.prog 25 #[stage 2 0 0 0 0 0 0 v fac s] w fun e w' => e = .returned (.bool true) ∧ Below w.heap.size w w' := by
  have n1 := ht.n1
  have VF := Lib.hid fun w' (hb : Below w.heap.size w w') => validFilter_any (h.below hb) ht h6 f1 f2 s4
  obtain ⟨a, c, rfl, h1, h2, _⟩ := h
  have B0 := Lib.hid (heap_alloc_new w (.cells (sc 2 0 0 0 0 0 0 (.slice a l.length c) fac s) 29))
  have W0 := Lib.hid (new_block (w := w) (.cells (sc 2 0 0 0 0 0 0 (.slice a l.length c) fac s) 29))
  unfold sc at B0 W0
  unfold stage sc at *
  have hl0 : ((l.length : Int) == 0) = false := by rw [beq_eq_false_iff_ne]; omega
  go_enter Try.func25, Try.ntmps25
  go_wp2_with fail
  refine (VF.out _ W0.out).mono ?_
  rintro e w2 ⟨rfl, hb⟩
  replace W0 := Lib.hid (Buf.then_ W0.out hb)
  clear hb
  go_wp2_with fail
  go_ret
  exact ⟨rfl, W0.out⟩
/-- Valid at taps that are not negative. -/
theorem valid_pos {w : World} {v : Value} {n s : Nat} {T : Nat → Int} {fac : Int} (h : SV w v n T) (n1 : 1 ≤ n) (n6 : n ≤ 6) (hT : ∀ j, j < n → 0 ≤ T j ∧ T j ≤ 4) (f1 : 1 ≤ fac) (f2 : fac ≤ 5) (s4 : s ≤ 4) (r : Bool) (hr : Hid (decide (psum T n ≤ 2 ^ s) = r)) :
    Calls Try.prog 24 #[.agg #[v, .int .i64 fac, .int .i64 s]] w fun e w' => e = .returned (.bool r) ∧ Below w.heap.size w w' := by
  obtain ⟨a, c, rfl, h1, h2, h3⟩ := h
  have H3 := Lib.hid h3
  have HT := Lib.hid hT
  obtain ⟨p1, p2⟩ := pow_bd30 s (by omega)
  have HP := Lib.hid fun k (hk : k ≤ n) => psum_bd T k (fun j hj => hT j (by omega))
  have HM : Hid (∀ k, k < n → psum T k + T k ≤ psum T n) := Lib.hid (fun k hk => by
    have hm : ∀ m, m ≤ n → k < m → psum T k + T k ≤ psum T m := by
      intro m
      induction m with
      | zero => intro _ h; omega
      | succ m ih =>
        intro hm hkm
        have b := hT m (by omega)
        show _ ≤ psum T m + T m
        by_cases e : k = m
        · subst e; omega
        · have := ih (by omega) (by omega); omega
    exact hm n (Nat.le_refl _) hk)
  clear h3 h2 hT
  go_enter Try.func24, Try.ntmps24
  go_wp2_with (go_at_call 27; refine (within_yes _ _ _ _ (by omega) (by omega)).mono ?_; rintro e w' ⟨rfl, m, rfl⟩)
  have HQ := Lib.hid p1
  go_loopw [4, 30] (fun u i wr => ∃ k : Nat, k ≤ n ∧ u = .int .i64 (psum T k) ∧ i = .int .i64 k ∧ Hid (Below w.heap.size w wr)) (fun _ i _ => n - (intOf i).toNat)
  case atStart => exact ⟨0, by omega, rfl, rfl, Lib.hid (Buf.below_drewN (new_block _) _)⟩
  case round =>
    obtain ⟨k, hk, rfl, rfl, hb⟩ := hrel
    by_cases hlt : k < n
    · obtain ⟨b, off, rfl, hbl, hc⟩ := H3.out (by omega)
      have c1 : wr.cell? ⟨b, off + k, none⟩ = some (.int .i64 (T k)) := by rw [hb.out.cell (p := ⟨b, off + k, none⟩) hbl]; exact hc k hlt
      obtain ⟨x1, x2⟩ := HT.out k hlt
      obtain ⟨q1, q2⟩ := HP.out k hk
      have hM := HM.out k hlt
      have d := hr.out
      have e1 : Hid (psum T (k + 1) = psum T k + T k) := Lib.hid rfl
      generalize psum T n = A at *
      generalize psum T k = B at *
      generalize T k = x at *
      generalize (2 : Int) ^ s = q at *
      clear hc
      have y3 : max x (-x) = x := by omega
      by_cases hx : x ≤ q
      · go_wp2_with (go_at_call 27; refine (within_yes _ _ _ _ (by omega) (by omega)).mono ?_; rintro e w' ⟨rfl, m, rfl⟩)
        go_roundw
        case rel => exact ⟨k + 1, by omega, by rw [e1.out], by go_num, Lib.hid (Buf.below_drewN hb.out _)⟩
        case measure => simp [intOf]; omega
      · have hd : decide (A ≤ q) = false := by simp; omega
        obtain rfl : r = false := by rw [← d]; exact hd
        go_wp2_with (go_at_call 27; refine (within_no _ _ _ _ (by omega)).mono ?_; rintro e w' ⟨rfl, m, rfl⟩)
        go_ret
        exact ⟨rfl, Buf.below_drewN hb.out _⟩
    · obtain rfl : k = n := by omega
      obtain ⟨q1, q2⟩ := HP.out k hk
      have d := hr.out
      clear hr HM HP
      generalize psum T k = A at *
      generalize (2 : Int) ^ s = q at *
      subst d
      go_wp2_with fail
      go_ret
      exact ⟨rfl, hb.out⟩
end Fil
end Go.Proofs.Ytmnafkfjmeoklaa
