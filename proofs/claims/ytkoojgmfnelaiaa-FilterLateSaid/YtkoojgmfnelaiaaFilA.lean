/- Contracts of package filter: inRange, Valid, outputAt. -/
import Derived.Test.YtkoojgmfnelaiaaWithin
import Derived.Test.YtkoojgmfnelaiaaFilM
import Derived.Lib.MinMax
set_option linter.unusedVariables false
namespace Go.Proofs.Ytkoojgmfnelaiaa
open Go.RowKit Wi Dice
namespace Fil
/-- A slice of numbers in memory, nil included. -/
def SV (w : World) (v : Value) (n : Nat) (X : Nat → Int) : Prop := ∃ a c, v = .slice a n c ∧ n ≤ c ∧ c ≤ maxLen ∧ (0 < n → ∃ b off, a = some ⟨b, off, none⟩ ∧ b < w.heap.size ∧ ∀ j, j < n → w.cell? ⟨b, off + j, none⟩ = some (.int .i64 (X j)))
theorem SV.below {w w' : World} {v : Value} {n : Nat} {X : Nat → Int} (h : SV w v n X) (hb : Below w.heap.size w w') : SV w' v n X := by
  obtain ⟨a, c, e, h1, h2, h3⟩ := h
  refine ⟨a, c, e, h1, h2, fun hn => ?_⟩
  obtain ⟨b, off, e', hlt, hc⟩ := h3 hn
  exact ⟨b, off, e', Nat.lt_of_lt_of_le hlt hb.size, fun j hj => by rw [hb.cell (p := ⟨b, off + j, none⟩) hlt]; exact hc j hj⟩
theorem inRange_any {w : World} {v : Value} {n : Nat} {X : Nat → Int} (h : SV w v n X) (hn : n ≤ 1000000) (hX : ∀ j, j < n → -1073741823 ≤ X j ∧ X j ≤ 1073741823) :
    Calls Try.prog 33 #[v] w fun e w' => e = .returned (.bool true) ∧ Below w.heap.size w w' := by
  obtain ⟨a, c, rfl, h1, h2, h3⟩ := h
  have H3 := Lib.hid h3
  have HX := Lib.hid hX
  clear h3 hX h2
  go_enter Try.func33, Try.ntmps33
  go_wp2_with fail
  go_loopw [7] (fun i wr => ∃ k : Nat, k ≤ n ∧ i = .int .i64 k ∧ Hid (Below w.heap.size w wr)) (fun i _ => n - (intOf i).toNat)
  case atStart => exact ⟨0, by omega, rfl, Lib.hid (Below.refl _ _)⟩
  case round =>
    obtain ⟨k, hk, rfl, hb⟩ := hrel
    by_cases hlt : k < n
    · obtain ⟨b, off, rfl, hbl, hc⟩ := H3.out (by omega)
      have c1 : wr.cell? ⟨b, off + k, none⟩ = some (.int .i64 (X k)) := by rw [hb.out.cell (p := ⟨b, off + k, none⟩) hbl]; exact hc k hlt
      obtain ⟨x1, x2⟩ := HX.out k hlt
      generalize X k = x at c1 x1 x2
      clear hc
      go_wp2_with (go_at_call 32; refine (within_yes _ _ _ _ (by omega) (by omega)).mono ?_; rintro e w' ⟨rfl, m, rfl⟩)
      go_roundw
      case rel => exact ⟨k + 1, by omega, by go_num, Lib.hid (Buf.below_drewN hb.out _)⟩
      case measure => simp [intOf]; omega
    · obtain rfl : k = n := by omega
      go_wp2_with fail
      go_ret
      exact ⟨rfl, hb.out⟩
/-- The box of a filter. -/
theorem cells3 {w : World} {g : Nat} {x y z : Value} {t : TypeId} (h : w.heap[g]? = some (.cells #[x, y, z] t (0, 0))) : w.cell? ⟨g, 0, none⟩ = some x ∧ w.cell? ⟨g, 1, none⟩ = some y ∧ w.cell? ⟨g, 2, none⟩ = some z :=
  ⟨cell_of_row w g 0 _ _ _ h, cell_of_row w g 1 _ _ _ h, cell_of_row w g 2 _ _ _ h⟩
set_option maxHeartbeats 1000000 in
theorem valid_yes {w : World} {v : Value} {n s : Nat} {T : Nat → Int} {fac : Int} (h : SV w v n T) (fg : FG n T fac s) :
    Calls Try.prog 29 #[.agg #[v, .int .i64 fac, .int .i64 s]] w fun e w' => e = .returned (.bool true) ∧ Below w.heap.size w w' := by
  obtain ⟨a, c, rfl, h1, h2, h3⟩ := h
  obtain ⟨n1, n2, s2, f1, f2, sum⟩ := fg
  have H3 := Lib.hid h3
  have HS := Lib.hid sum
  obtain ⟨p1, p2⟩ := pow_bd30 s s2
  have HT := Lib.hid fun k (hk : k < n) => absum_tap T k n hk
  have HL := Lib.hid fun k (hk : k ≤ n) => absum_le T k n hk
  have HN := Lib.hid (absum_nn T)
  clear h3 h2 sum
  go_enter Try.func29, Try.ntmps29
  go_wp2_with (go_at_call 32; refine (within_yes _ _ _ _ (by omega) (by omega)).mono ?_; rintro e w' ⟨rfl, m, rfl⟩)
  have HQ := Lib.hid p1
  go_loopw [4, 30] (fun u i wr => ∃ k : Nat, k ≤ n ∧ u = .int .i64 (absum T k) ∧ i = .int .i64 k ∧ Hid (Below w.heap.size w wr)) (fun _ i _ => n - (intOf i).toNat)
  case atStart => exact ⟨0, by omega, rfl, rfl, Lib.hid (Buf.below_drewN (new_block _) _)⟩
  case round =>
    obtain ⟨k, hk, rfl, rfl, hb⟩ := hrel
    by_cases hlt : k < n
    · obtain ⟨b, off, rfl, hbl, hc⟩ := H3.out (by omega)
      have c1 : wr.cell? ⟨b, off + k, none⟩ = some (.int .i64 (T k)) := by rw [hb.out.cell (p := ⟨b, off + k, none⟩) hbl]; exact hc k hlt
      obtain ⟨x1, x2⟩ := HT.out k hlt
      have hs1 := HL.out k hk
      have hs0 := HN.out k
      have hq := HS.out
      have e1 : Hid (absum T (k + 1) = absum T k + max (T k) (-T k)) := Lib.hid rfl
      generalize absum T n = A at *
      generalize absum T k = B at *
      generalize T k = x at *
      generalize (2 : Int) ^ s = q at *
      clear hc
      have y1 : -q ≤ x := by omega
      have y2 : x ≤ q := by omega
      have y3 : 0 ≤ max x (-x) ∧ max x (-x) ≤ 1073741824 := by omega
      go_wp2_with (go_at_call 32; refine (within_yes _ _ _ _ (by omega) (by omega)).mono ?_; rintro e w' ⟨rfl, m, rfl⟩)
      go_roundw
      case rel => exact ⟨k + 1, by omega, by rw [e1.out], by go_num, Lib.hid (Buf.below_drewN hb.out _)⟩
      case measure => simp [intOf]; omega
    · obtain rfl : k = n := by omega
      have hq := HS.out
      have d : decide (absum T k ≤ 2 ^ s) = true := by simpa using hq
      generalize absum T k = A at *
      generalize (2 : Int) ^ s = q at *
      go_wp2_with fail
      go_ret
      exact ⟨rfl, hb.out⟩
set_option maxHeartbeats 2000000 in
theorem outputAt_any {w : World} {v u : Value} {n n' s : Nat} {T X : Nat → Int} {fac : Int} (h : SV w v n T) (hx : SV w u n' X) (fg : FG n T fac s) (q : Nat) (hi : n - 1 ≤ q) (hi' : q < n') (hn' : n' ≤ 1000000) (hX : ∀ j, j < n' → -1073741823 ≤ X j ∧ X j ≤ 1073741823) :
    Calls Try.prog 51 #[.agg #[v, .int .i64 fac, .int .i64 s], u, .int .i64 q] w fun e w' => e = .returned (.int .i64 (dot T X q n / 2 ^ s)) ∧ Below w.heap.size w w' := by
  obtain ⟨a, c, rfl, h1, h2, h3⟩ := h
  obtain ⟨a', c', rfl, g1, g2, g3⟩ := hx
  obtain ⟨n1, n2, s2, f1, f2, sum⟩ := fg
  obtain ⟨b, off, rfl, hbl, hc⟩ := h3 (by omega)
  obtain ⟨b', off', rfl, hbl', hc'⟩ := g3 (by omega)
  obtain ⟨p1, p2⟩ := pow_bd30 s s2
  have HC := Lib.hid hc
  have HC' := Lib.hid hc'
  have HD : Hid (∀ k, k ≤ n → -1152921504606846976 ≤ dot T X q k ∧ dot T X q k ≤ 1152921504606846976) := Lib.hid fun k hk => by
    have a := dot_bd T X q 1073741823 k (fun j hj => hX (q - j) (by omega))
    have b := absum_le T k n hk
    omega
  have HP : Hid (∀ k, k < n → -1152921504606846976 ≤ T k * X (q - k) ∧ T k * X (q - k) ≤ 1152921504606846976) := Lib.hid fun k hk => by
    obtain ⟨t1, t2⟩ := absum_tap T k n hk
    have a := prod_bd (T k) (X (q - k)) 1073741823 (hX (q - k) (by omega)).1 (hX (q - k) (by omega)).2
    omega
  clear h3 g3 hc hc' h2 g2 sum hX
  have W0 := Lib.hid (new_block (w := w) (.cells #[.slice (some ⟨b, off, none⟩) n c, .int .i64 fac, .int .i64 s] 33))
  have B0 := Lib.hid (heap_alloc_new w (.cells #[.slice (some ⟨b, off, none⟩) n c, .int .i64 fac, .int .i64 s] 33))
  go_enter Try.func51, Try.ntmps51
  go_wp2_with fail
  generalize w.alloc (.cells #[.slice (some ⟨b, off, none⟩) n c, .int .i64 fac, .int .i64 s] 33) = w1 at *
  obtain ⟨m0, m1, m2⟩ := cells3 B0.out
  go_loop [7, 13] (fun u i => ∃ k : Nat, k ≤ n ∧ u = .int .i64 (dot T X q k) ∧ i = .int .i64 k) (fun _ i => n - (intOf i).toNat)
  case atStart => exact ⟨0, by omega, rfl, rfl⟩
  case round =>
    obtain ⟨k, hk, rfl, rfl⟩ := hrel
    by_cases hlt : k < n
    · have c1 : w1.cell? ⟨b, off + k, none⟩ = some (.int .i64 (T k)) := by rw [W0.out.cell (p := ⟨b, off + k, none⟩) hbl]; exact HC.out k hlt
      have c2 : w1.cell? ⟨b', off' + (q - k), none⟩ = some (.int .i64 (X (q - k))) := by rw [W0.out.cell (p := ⟨b', off' + (q - k), none⟩) hbl']; exact HC'.out (q - k) (by omega)
      have c3 : w1.cell? ⟨b', off' + ((q : Int) - (k : Int)).toNat, none⟩ = some (.int .i64 (X (q - k))) := by rw [show ((q : Int) - (k : Int)).toNat = q - k by omega]; exact c2
      obtain ⟨d1, d2⟩ := HD.out k hk
      obtain ⟨d3, d4⟩ := HD.out (k + 1) hlt
      obtain ⟨d5, d6⟩ := HP.out k hlt
      have e1 : Hid (dot T X q (k + 1) = dot T X q k + T k * X (q - k)) := Lib.hid rfl
      rw [e1.out] at d3 d4
      generalize dot T X q k = B at *
      generalize X (q - k) = y at *
      generalize T k = x at *
      have hqk : k ≤ q := by omega
      have hqi : (0 : Int) ≤ (q : Int) - k ∧ (q : Int) - k < n' := by omega
      go_wp2_with fail
      go_round
      case rel => exact ⟨k + 1, by omega, by rw [e1.out], by go_num⟩
      case measure => simp [intOf]; omega
    · obtain rfl : k = n := by omega
      obtain ⟨d1, d2⟩ := HD.out k hk
      generalize hA : dot T X q k = A at *
      replace hA := Lib.hid hA
      go_wp2_with fail
      go_ret
      exact ⟨by rw [hA.out]; rfl, W0.out⟩
theorem infoI : (Try.prog.info? 3).map (fun i => (i.zero, i.size, i.bytes)) = some (some (.int .i64 0), 1, 8) := by kernel_rfl
def ints (l : List Int) : List Value := l.map fun z => Value.int .i64 z
theorem ints_snoc (l : List Int) (z : Int) : ints (l ++ [z]) = ints l ++ [.int .i64 z] := by simp [ints]
theorem own_len {B : Nat} {w : World} {v : Value} {xs : List Value} (h : Buf.Own B w v xs) : ∃ a c, v = .slice a xs.length c := by
  rcases h with ⟨rfl, rfl⟩ | ⟨g, c, h, _⟩
  · exact ⟨_, _, rfl⟩
  · exact ⟨_, _, h⟩
theorem ints_len (l : List Int) : (ints l).length = l.length := by simp [ints]
set_option maxHeartbeats 2000000 in
set_option maxRecDepth 100000 in
theorem outputs_any {w : World} {v u : Value} {n n' s : Nat} {T X : Nat → Int} {fac : Int} (num : Int) (h : SV w v n T) (hx : SV w u n' X) (fg : FG n T fac s) (hn' : n' ≤ 1000000) (hX : ∀ j, j < n' → -1073741823 ≤ X j ∧ X j ≤ 1073741823) (m0 : 0 ≤ num) (m1 : num ≤ 18014398509481984) :
    Calls Try.prog 34 #[.agg #[v, .int .i64 fac, .int .i64 s], u, .int .i64 num] w fun e w' => (∃ r f, e = .returned (.tuple #[r, .int .i64 f]) ∧ Buf.Own w.heap.size w' r (ints (outs T X n s fac num n'))) ∧ Below w.heap.size w w' := by
  have OA := Lib.hid fun (w1 : World) (hb : Below w.heap.size w w1) q h1 h2 => outputAt_any (h.below hb) (hx.below hb) fg q h1 h2 hn' hX
  have OB := Lib.hid fun q (h1 : n - 1 ≤ q) (h2 : q < n') => fg.out X q (fun j hj => hX (q - j) (by omega))
  obtain ⟨a, c, rfl, h1, h2, h3⟩ := h
  obtain ⟨a', c', rfl, g1, g2, g3⟩ := hx
  obtain ⟨n1, n2, s2, f1, f2, sum⟩ := fg
  obtain ⟨i0, hi, hz0, hz1, hz2⟩ := info_parts infoI
  clear h3 g3 h2 g2 sum hX
  have W0 := Lib.hid (new_block (w := w) (.cells #[.slice a n c, .int .i64 fac, .int .i64 s] 33))
  have B0 := Lib.hid (heap_alloc_new w (.cells #[.slice a n c, .int .i64 fac, .int .i64 s] 33))
  go_enter Try.func34, Try.ntmps34
  go_wp2_with fail
  generalize w.alloc (.cells #[.slice a n c, .int .i64 fac, .int .i64 s] 33) = w1 at *
  obtain ⟨x0, x1, x2⟩ := cells3 B0.out
  have en : ((n : Int) - 1) = ((n - 1 : Nat) : Int) := by omega
  go_wp2_with fail
  go_loopw [6, 7, 8] (fun r f i wr => ∃ (k : Nat) (f0 : Int), n - 1 ≤ k ∧ (k ≤ n' ∨ k = n - 1) ∧ i = .int .i64 k ∧ f = .int .i64 f0 ∧ Hid (Buf.Own w1.heap.size wr r (ints (outs T X n s fac num k))) ∧ Hid (Below w1.heap.size w1 wr)) (fun _ _ i _ => n' - (intOf i).toNat)
  case atStart => exact ⟨n - 1, 0, Nat.le_refl _, .inr rfl, by rw [en], rfl, Lib.hid (by rw [outs_zero T X n s fac num (n - 1) (Nat.le_refl _)]; exact Buf.Own.nil _ _), Lib.hid (Below.refl _ _)⟩
  case round =>
    clear x0 x1 x2 en
    obtain ⟨k, f0, hk0, hk, rfl, rfl, ho, hb⟩ := hrel
    have WW := Lib.hid (W0.out.trans (hb.out.mono W0.out.size))
    by_cases hlt : k < n'
    · have B1 := Lib.hid ((hb.out.block w.heap.size (Array.getElem?_eq_some_iff.1 B0.out).1).trans B0.out)
      obtain ⟨x0, x1, x2⟩ := cells3 B1.out
      have hfz : ¬ fac = 0 := by omega
      by_cases hm : (num + (k : Int)) % fac = 0
      · have hyes := Lib.hid (outs_yes T X n s fac num k hk0 hm)
        have hm' : (((num + (k : Int)) % fac) == 0) = true := by simpa using hm
        have hl := outs_len T X n s fac num k
        by_cases he : outs T X n s fac num k = []
        · rw [he] at ho hyes
          have l1 : Hid (([] : List Value).length + 1 ≤ maxLen) := Lib.hid (by decide)
          have l2 : Hid ((([] : List Value).length + 1) * 8 ≤ 140737488355328) := Lib.hid (by decide)
          clear he hl
          have ho' : Hid (Buf.Own w1.heap.size wr u6 []) := ho
          clear ho
          obtain ⟨ra, rc, rfl⟩ : ∃ a c, u6 = .slice a 0 c := own_len ho'.out
          have ho := ho'
          clear ho'
          go_wp2_with fail
          refine (OA.out _ WW.out k hk0 hlt).mono ?_
          rintro e w2 ⟨rfl, hb2⟩
          replace ho := Lib.hid (ho.out.below hb2)
          replace hb := Lib.hid (Buf.then_ hb.out hb2)
          have hsz := hb.out.size
          obtain ⟨o1, o2⟩ := OB.out k hk0 hlt
          generalize dot T X k n / 2 ^ s = y at *
          clear hb2 x0 x1 x2
          go_wp2_with (at_builtin; refine Buf.wpList_append_one rfl _ _ 22 rfl 3 _ i0 (.int .i64 0) 8 Try.underlying22 hi hz0 hz1 hz2 rfl rfl ho.out hb.out hsz (.int .i64 y) rfl rfl l1.out l2.out ?_; intro v' w3 hown' hb' _)
          go_roundw
          case rel => exact ⟨k + 1, k, by omega, by omega, by go_num, rfl, Lib.hid (by rw [hyes.out, ints_snoc]; exact hown'), Lib.hid hb'⟩
          case measure => simp [intOf]; omega
        · have hlen : (outs T X n s fac num k).length ≠ 0 := fun h => he (List.length_eq_zero_iff.1 h)
          have l1 : Hid ((ints (outs T X n s fac num k)).length + 1 ≤ maxLen) := Lib.hid (by rw [ints_len]; unfold maxLen; omega)
          have l2 : Hid (((ints (outs T X n s fac num k)).length + 1) * 8 ≤ 140737488355328) := Lib.hid (by rw [ints_len]; omega)
          have he' : (((ints (outs T X n s fac num k)).length : Int) == 0) = false := by rw [beq_eq_false_iff_ne, ints_len]; omega
          have hl' : (ints (outs T X n s fac num k)).length ≤ 1000000 := by rw [ints_len]; omega
          clear he hl hlen
          obtain ⟨ra, rc, rfl⟩ := own_len ho.out
          skip
          go_wp2_with fail
          refine (OA.out _ WW.out k hk0 hlt).mono ?_
          rintro e w2 ⟨rfl, hb2⟩
          replace ho := Lib.hid (ho.out.below hb2)
          replace hb := Lib.hid (Buf.then_ hb.out hb2)
          have hsz := hb.out.size
          obtain ⟨o1, o2⟩ := OB.out k hk0 hlt
          generalize dot T X k n / 2 ^ s = y at *
          clear hb2 x0 x1 x2
          go_wp2_with (at_builtin; refine Buf.wpList_append_one rfl _ _ 22 rfl 3 _ i0 (.int .i64 0) 8 Try.underlying22 hi hz0 hz1 hz2 rfl rfl ho.out hb.out hsz (.int .i64 y) rfl rfl l1.out l2.out ?_; intro v' w3 hown' hb' _)
          go_roundw
          case rel => exact ⟨k + 1, f0, by omega, by omega, by go_num, rfl, Lib.hid (by rw [hyes.out, ints_snoc]; exact hown'), Lib.hid hb'⟩
          case measure => simp [intOf]; omega
      · have hno := Lib.hid (outs_no T X n s fac num k hm)
        have hm' : (((num + (k : Int)) % fac) == 0) = false := by simpa using hm
        go_wp2_with fail
        go_roundw
        case rel => exact ⟨k + 1, f0, by omega, by omega, by go_num, rfl, Lib.hid (by rw [hno.out]; exact ho.out), hb⟩
        case measure => simp [intOf]; omega
    · have hout : Hid (outs T X n s fac num k = outs T X n s fac num n') := Lib.hid (by
        rcases hk with hk | hk
        · rw [show k = n' by omega]
        · rw [outs_zero T X n s fac num k (by omega), outs_zero T X n s fac num n' (by omega)])
      go_wp2_with fail
      go_ret2
      exact ⟨⟨_, f0, rfl, by rw [← hout.out]; exact ho.out.mono W0.out.size⟩, WW.out⟩
end Fil
end Go.Proofs.Ytkoojgmfnelaiaa
