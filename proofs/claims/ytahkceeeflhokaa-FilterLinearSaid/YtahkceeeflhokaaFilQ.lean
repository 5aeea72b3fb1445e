/- The reference's InRange; the outputs that a factor keeps. -/
import Derived.Test.YtahkceeeflhokaaFilR
set_option linter.unusedVariables false
namespace Go.Proofs.Ytahkceeeflhokaa
open Go.RowKit Wi Dice
namespace Fil
theorem sample_yes (n : Int) (w : World) (h1 : -1073741823 ≤ n) (h2 : n ≤ 1073741823) :
    Calls Try.prog 29 #[.int .i64 n] w fun e w' => e = .returned (.bool true) ∧ Below w.heap.size w w' := by
  go_enter Try.func29, Try.ntmps29
  go_wp2_with (go_at_call 30; refine (in_yes _ _ _ _ (by omega) (by omega)).mono ?_; rintro e w' ⟨rfl, m, rfl⟩)
  go_ret
  exact ⟨rfl, Buf.below_drewN (Below.refl _ _) _⟩
theorem refinr_yes {w : World} {v : Value} {n : Nat} {X : Nat → Int} (h : SV w v n X) (hn : n ≤ 1000000) (hX : ∀ j, j < n → -1073741823 ≤ X j ∧ X j ≤ 1073741823) :
    Calls Try.prog 14 #[v] w fun e w' => e = .returned (.bool true) ∧ Below w.heap.size w w' := by
  have S0 := Lib.hid fun w' (hb : Below w.heap.size w w') => h.below hb
  obtain ⟨a, c, rfl, h1, _, _⟩ := h
  have HX := Lib.hid hX
  clear hX
  go_enter Try.func14, Try.ntmps14
  go_wp2_with fail
  go_loopw [3] (fun i wr => ∃ k : Nat, k ≤ n ∧ i = .int .i64 k ∧ Hid (Below w.heap.size w wr)) (fun i _ => n - (intOf i).toNat)
  case atStart => exact ⟨0, by omega, rfl, Lib.hid (Below.refl _ _)⟩
  case round =>
    obtain ⟨k, hk, rfl, hb⟩ := hrel
    by_cases hlt : k < n
    · obtain ⟨b, off, rfl, c1⟩ := (S0.out _ hb.out).at k hlt
      obtain ⟨x1, x2⟩ := HX.out k hlt
      generalize X k = x at c1 x1 x2
      go_wp2_with fail
      refine (sample_yes x _ x1 x2).mono ?_
      rintro e w2 ⟨rfl, hb2⟩
      replace hb := Lib.hid (Buf.then_ hb.out hb2)
      clear hb2 c1
      go_wp2_with fail
      go_roundw
      case rel => exact ⟨k + 1, by omega, by go_num, hb⟩
      case measure => simp [intOf]; omega
    · obtain rfl : k = n := by omega
      go_wp2_with fail
      go_ret
      exact ⟨rfl, hb.out⟩
theorem outs_prefix (T X : Nat → Int) (n s : Nat) (fac num : Int) (k : Nat) : ∀ L, k ≤ L → ∃ r, outs T X n s fac num L = outs T X n s fac num k ++ r := by
  intro L
  induction L with
  | zero => intro h; obtain rfl : k = 0 := by omega
            exact ⟨[], by simp⟩
  | succ L ih =>
    intro h
    by_cases hk : k ≤ L
    · obtain ⟨r, hr⟩ := ih hk
      have e : ∃ r', outs T X n s fac num (L + 1) = outs T X n s fac num L ++ r' := by
        refine ⟨(([L].filter (keep n fac num)).map fun i => dot T X i n / 2 ^ s), ?_⟩
        unfold outs
        rw [List.range_succ, List.filter_append, List.map_append]
      obtain ⟨r', hr'⟩ := e
      exact ⟨r ++ r', by rw [hr', hr, List.append_assoc]⟩
    · obtain rfl : k = L + 1 := by omega
      exact ⟨[], by simp⟩
theorem outs_get (T X : Nat → Int) (n s : Nat) (fac num : Int) (k L : Nat) (h1 : n - 1 ≤ k) (hk : k < L) (hm : (num + k) % fac = 0) :
    (outs T X n s fac num (k + 1)).length = (outs T X n s fac num k).length + 1 ∧ (outs T X n s fac num k).length < (outs T X n s fac num L).length ∧ fn (outs T X n s fac num L) (outs T X n s fac num k).length = dot T X k n / 2 ^ s := by
  have e1 := outs_yes T X n s fac num k h1 hm
  obtain ⟨r, hr⟩ := outs_prefix T X n s fac num (k + 1) L hk
  rw [e1] at hr
  refine ⟨by rw [e1]; simp, by rw [hr]; simp, ?_⟩
  unfold fn
  rw [hr, List.getD_eq_getElem?_getD, List.append_assoc, List.getElem?_append_right (Nat.le_refl _)]
  simp
end Fil
end Go.Proofs.Ytahkceeeflhokaa
