/- Compare. -/
import Derived.Test.YtaaeegjinblpiaaDoorNtxD
import Derived.Test.YtaaeegjinblpiaaDoorNtxX
set_option linter.unusedVariables false
set_option linter.unusedSimpArgs false
namespace Go.Proofs.YtaaeegjinblpiaaDoor
open Go.RowKit Dice
namespace Nt
theorem vl_app (A C : List Int) : vl (A ++ C) = vl A + 1073741824 ^ A.length * vl C := by
  induction A with
  | nil => simp [vl]
  | cons a l ih =>
    simp only [List.cons_append, vl, ih, List.length_cons, Int.pow_succ, Int.mul_add]
    rw [Int.mul_comm (1073741824 ^ l.length) 1073741824, Int.mul_assoc]
    omega
theorem vl_at (L M : List Int) (j : Nat) (x y : Int) (hL : Rg L) (hM : Rg M) (hl : L.length = M.length) (hx : L[j]? = some x) (hy : M[j]? = some y) (hd : L.drop (j + 1) = M.drop (j + 1)) (h : x < y) : vl L < vl M := by
  obtain ⟨h1, e1⟩ := List.getElem?_eq_some_iff.1 hx
  obtain ⟨h2, e2⟩ := List.getElem?_eq_some_iff.1 hy
  have t1 : L.take (j + 1) = L.take j ++ [x] := by rw [List.take_succ_eq_append_getElem h1, e1]
  have t2 : M.take (j + 1) = M.take j ++ [y] := by rw [List.take_succ_eq_append_getElem h2, e2]
  have a := vl_top (L.take j) (M.take j) x y (fun z hz => hL z (List.mem_of_mem_take hz)) (fun z hz => hM z (List.mem_of_mem_take hz)) h (by simp; omega)
  have l1 := vl_app (L.take (j + 1)) (L.drop (j + 1))
  have l2 := vl_app (M.take (j + 1)) (M.drop (j + 1))
  rw [List.take_append_drop] at l1 l2
  rw [l1, l2, hd, t1, t2]
  have : (L.take j ++ [x]).length = (M.take j ++ [y]).length := by simp; omega
  rw [this]; omega
theorem nan_any (x : Int) (w : World) : Calls Tryd.prog 42 #[.int .i64 x] w fun e w' => e = .returned (.bool false) ∧ w' = w := by
  go_enter Tryd.func42, Tryd.ntmps42
  go_wp2
  go_ret
  exact ⟨by simp, rfl⟩
theorem cmp_lt (x y : Int) (w : World) (h : x < y) : Calls Tryd.prog 37 #[.int .i64 x, .int .i64 y] w fun e w' => e = .returned (.int .i64 (-1)) ∧ w' = w := by
  go_enter Tryd.func37, Tryd.ntmps37
  go_wp2_with (go_at_call 42; refine (nan_any _ _).mono ?_; rintro e w1 ⟨rfl, rfl⟩)
  go_ret
  exact ⟨rfl, rfl⟩
theorem cmp_gt (x y : Int) (w : World) (h : y < x) : Calls Tryd.prog 37 #[.int .i64 x, .int .i64 y] w fun e w' => e = .returned (.int .i64 1) ∧ w' = w := by
  go_enter Tryd.func37, Tryd.ntmps37
  go_wp2_with (go_at_call 42; refine (nan_any _ _).mono ?_; rintro e w1 ⟨rfl, rfl⟩)
  go_ret
  exact ⟨rfl, rfl⟩
theorem cmp_eq (x : Int) (w : World) : Calls Tryd.prog 37 #[.int .i64 x, .int .i64 x] w fun e w' => e = .returned (.int .i64 0) ∧ w' = w := by
  go_enter Tryd.func37, Tryd.ntmps37
  go_wp2_with (go_at_call 42; refine (nan_any _ _).mono ?_; rintro e w1 ⟨rfl, rfl⟩)
  go_ret
  exact ⟨rfl, rfl⟩
/-- What a comparison tells. -/
def Told (a b : Int) (e : Ending) : Prop := (e = .returned (.int .i64 (-1)) ∧ a < b) ∨ (e = .returned (.int .i64 1) ∧ b < a) ∨ (e = .returned (.int .i64 0) ∧ a = b)
set_option maxHeartbeats 4000000 in
theorem compare_any {w : World} {a a' : Option Addr} {n c n' c' : Nat} {L M : List Int} (h : Nr w a n c L) (h' : Nr w a' n' c' M) (hL : Limbs L) (hM : Limbs M) :
    Calls Tryd.prog 28 #[.slice a n c, .slice a' n' c'] w fun e w' => Told (vl L) (vl M) e ∧ ∃ m, w' = w.drewN m := by
  have hl := h.len
  have hl' := h'.len
  have hs := h.small
  have hs' := h'.small
  have hnc := h.nc
  have hnc' := h'.nc
  have H := Lib.hid h
  have H' := Lib.hid h'
  clear h h'
  rcases Nat.lt_trichotomy n n' with h | h | h
  · have T : Hid (vl L < vl M) := Lib.hid (vl_short hL.rg hM (by omega))
    clear hl hl' hL hM
    go_enter Tryd.func28, Tryd.ntmps28
    go_wp2_with (go_at_call 37; refine (cmp_lt _ _ _ (by omega)).mono ?_; rintro e w1 ⟨rfl, rfl⟩)
    go_ret
    exact ⟨.inl ⟨rfl, T.out⟩, 0, rfl⟩
  · subst h
    replace hl := Lib.hid hl
    replace hl' := Lib.hid hl'
    replace hL := Lib.hid hL
    replace hM := Lib.hid hM
    go_enter Tryd.func28, Tryd.ntmps28
    go_wp2_with (go_at_call 37; refine (cmp_eq _ _).mono ?_; rintro e w1 ⟨rfl, rfl⟩)
    go_loopw [6] (fun i wr => ∃ k : Nat, k ≤ n ∧ i = .int .i64 ((k : Int) - 1) ∧ Hid (L.drop k = M.drop k) ∧ ∃ m, wr = w1.drewN m) (fun i _ => (intOf i + 1).toNat)
    case atStart => exact ⟨n, Nat.le_refl _, by go_num, Lib.hid (by rw [List.drop_eq_nil_of_le (by rw [← hl.out]; exact Nat.le_refl _), List.drop_eq_nil_of_le (by rw [← hl'.out]; exact Nat.le_refl _)]), 0, rfl⟩
    case round =>
      obtain ⟨k, hk, rfl, hq, m, rfl⟩ := hrel
      by_cases hz : k = 0
      · subst hz
        have e0 : (((0 : Nat) : Int) - 1) = -1 := rfl
        rw [e0]
        have heq : Hid (vl L = vl M) := Lib.hid (by have := hq.out; rw [List.drop_zero, List.drop_zero] at this; rw [this])
        clear hq
        go_wp2_with fail
        go_ret
        exact ⟨.inr (.inr ⟨rfl, heq.out⟩), m, rfl⟩
      · obtain ⟨j, rfl⟩ : ∃ j, k = j + 1 := ⟨k - 1, by omega⟩
        have ej : ((j + 1 : Nat) : Int) - 1 = (j : Int) := by omega
        rw [ej]
        have HJ := Lib.hid ej
        clear ej
        have hj0 : (0 : Int) ≤ (j : Int) := by omega
        have hj1 : (j : Int) < (n : Int) := by omega
        obtain ⟨g, rfl, hg, hc⟩ := H.out.at_ (by omega)
        obtain ⟨g', rfl, hg', hc'⟩ := H'.out.at_ (by omega)
        obtain ⟨x, hx⟩ : ∃ y, L[j]? = some y := ⟨L[j]'(by rw [← hl.out]; omega), List.getElem?_eq_getElem _⟩
        obtain ⟨y, hy⟩ : ∃ y, M[j]? = some y := ⟨M[j]'(by rw [← hl'.out]; omega), List.getElem?_eq_getElem _⟩
        have ck : (w1.drewN m).cell? ⟨g, j, none⟩ = some (.int .i64 x) := hc _ _ hx
        have ck' : (w1.drewN m).cell? ⟨g', j, none⟩ = some (.int .i64 y) := hc' _ _ hy
        have Q := Lib.hid fun (h : x < y) => vl_at L M j x y hL.out.rg hM.out.rg (by rw [← hl.out, ← hl'.out]) hx hy hq.out h
        have Q' := Lib.hid fun (h : y < x) => vl_at M L j y x hM.out.rg hL.out.rg (by rw [← hl.out, ← hl'.out]) hy hx hq.out.symm h
        have E := Lib.hid fun (h : x = y) => show L.drop j = M.drop j by
          obtain ⟨h1, e1⟩ := List.getElem?_eq_some_iff.1 hx
          obtain ⟨h2, e2⟩ := List.getElem?_eq_some_iff.1 hy
          rw [List.drop_eq_getElem_cons h1, List.drop_eq_getElem_cons h2, e1, e2, h, hq.out]
        clear hx hy hc hc'
        obtain ⟨wr, hwr⟩ : ∃ wr, wr = w1.drewN m := ⟨_, rfl⟩
        rw [← hwr] at ck ck'
        rw [← hwr]
        have hm := Lib.hid hwr
        clear hwr
        rcases Int.lt_trichotomy x y with h | rfl | h
        · go_wp2_with fail
          go_quiet ((go_at_call 37; exact Calls.quiet_of_same (cmp_lt _ _ _ h)))
          go_wp2
          go_ret
          exact ⟨.inl ⟨rfl, Q.out h⟩, _, by rw [hm.out]; exact World.drewN_drewN _ _ _⟩
        · go_wp2_with fail
          go_quiet ((go_at_call 37; exact Calls.quiet_of_same (cmp_eq _ _)))
          go_wp2
          go_roundw
          case rel => exact ⟨j, by omega, rfl, Lib.hid (E.out trivial), _, by rw [hm.out]; exact World.drewN_drewN _ _ _⟩
          case measure => simp [intOf]
        · go_wp2_with fail
          go_quiet ((go_at_call 37; exact Calls.quiet_of_same (cmp_gt _ _ _ h)))
          go_wp2
          go_ret
          exact ⟨.inr (.inl ⟨rfl, Q'.out h⟩), _, by rw [hm.out]; exact World.drewN_drewN _ _ _⟩
  · have T : Hid (vl M < vl L) := Lib.hid (vl_short hM.rg hL (by omega))
    clear hl hl' hL hM
    go_enter Tryd.func28, Tryd.ntmps28
    go_wp2_with (go_at_call 37; refine (cmp_gt _ _ _ (by omega)).mono ?_; rintro e w1 ⟨rfl, rfl⟩)
    go_ret
    exact ⟨.inr (.inl ⟨rfl, T.out⟩), 0, rfl⟩
theorem Compare_any {w : World} {a a' : Option Addr} {n c n' c' : Nat} {L M : List Int} (h : Nr w a n c L) (h' : Nr w a' n' c' M) (hL : Limbs L) (hM : Limbs M) (h64 : n ≤ 64) (h64' : n' ≤ 64) :
    Calls Tryd.prog 11 #[.slice a n c, .slice a' n' c'] w fun e w' => Told (vl L) (vl M) e ∧ ∃ m, w' = w.drewN m := by
  have V1 := Lib.hid (valid_any h hL h64)
  have V2 := Lib.hid (valid_any h' hM h64')
  have C := Lib.hid (compare_any h h' hL hM)
  clear h h' hL hM
  go_enter Tryd.func11, Tryd.ntmps11
  go_wp2_with fail
  refine V1.out.mono ?_
  rintro e w1 ⟨rfl, hw⟩
  replace hw := hw.symm
  subst hw
  go_wp2_with fail
  refine V2.out.mono ?_
  rintro e w1 ⟨rfl, hw⟩
  replace hw := hw.symm
  subst hw
  go_wp2_with fail
  refine C.out.mono ?_
  rintro e w1 ⟨ht, m, rfl⟩
  have HT := Lib.hid ht
  rcases ht with ⟨rfl, _⟩ | ⟨rfl, _⟩ | ⟨rfl, _⟩
  all_goals
    go_wp2_with fail
    go_ret
    exact ⟨HT.out, m, rfl⟩
end Nt
end Go.Proofs.YtaaeegjinblpiaaDoor
