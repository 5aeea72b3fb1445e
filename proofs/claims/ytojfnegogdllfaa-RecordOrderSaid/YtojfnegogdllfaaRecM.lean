/- The order of records: the mathematics; slices.Compare. -/
import Derived.Test.YtojfnegogdllfaaSrcIN
import Derived.Test.YtojfnegogdllfaaRecJ
set_option linter.unusedVariables false
set_option linter.unusedSimpArgs false
namespace Go.Proofs.Ytojfnegogdllfaa
open Go.RowKit
namespace Rec
open Dice Sc
def cI (x y : Int) : Int := if x < y then -1 else if y < x then 1 else 0
theorem cI_to : TO cI where
  anti x y := by unfold cI; split <;> split <;> omega
  zero x y := by unfold cI; split <;> (try split) <;> omega
  trans x y z := by unfold cI; split <;> split <;> split <;> (try split) <;> (try split) <;> (try split) <;> omega
theorem cJ_to : TO (fun x y => cI y x) where
  anti x y := cI_to.anti y x
  zero x y := (cI_to.zero y x).trans ⟨Eq.symm, Eq.symm⟩
  trans x y z := fun h1 h2 => cI_to.trans z y x h2 h1
/-- Lists, number by number; the shorter goes ahead. -/
def cL : List Int → List Int → Int
  | [], [] => 0
  | [], _ :: _ => -1
  | _ :: _, [] => 1
  | x :: xs, y :: ys => if cI x y = 0 then cL xs ys else cI x y
theorem cL_anti : ∀ x y, cL y x = - cL x y
  | [], [] => rfl
  | [], _ :: _ => rfl
  | _ :: _, [] => rfl
  | x :: xs, y :: ys => by
    have h := cI_to.anti x y
    have := cL_anti xs ys
    simp only [cL]
    split <;> split <;> omega
theorem cL_zero : ∀ x y, cL x y = 0 ↔ x = y
  | [], [] => by simp [cL]
  | [], _ :: _ => by simp [cL]
  | _ :: _, [] => by simp [cL]
  | x :: xs, y :: ys => by
    have h := cI_to.zero x y
    have := cL_zero xs ys
    simp only [cL, List.cons.injEq]
    split
    · rename_i e; rw [this]; simp [h.1 e]
    · rename_i e; simp [e]; intro q; exact absurd (h.2 q) e
theorem cL_trans : ∀ x y z, cL x y ≤ 0 → cL y z ≤ 0 → cL x z ≤ 0
  | [], y, [] => by simp [cL]
  | [], y, _ :: _ => by simp [cL]
  | _ :: _, [], z => by simp [cL]
  | _ :: _, _ :: _, [] => by simp [cL]
  | x :: xs, y :: ys, z :: zs => by
    have ih := cL_trans xs ys zs
    simp only [cL]
    intro h1 h2
    by_cases e1 : cI x y = 0
    · obtain rfl := (cI_to.zero x y).1 e1
      rw [if_pos e1] at h1
      by_cases e2 : cI x z = 0
      · rw [if_pos e2] at h2 ⊢; exact ih h1 h2
      · rw [if_neg e2] at h2 ⊢; exact h2
    · rw [if_neg e1] at h1
      by_cases e2 : cI y z = 0
      · obtain rfl := (cI_to.zero y z).1 e2
        rw [if_neg e1]; exact h1
      · rw [if_neg e2] at h2
        have := cI_to.lt (x := x) (y := y) (z := z) (by omega) h2
        rw [if_neg (by omega)]; omega
theorem cL_to : TO cL := ⟨cL_anti, cL_zero, cL_trans⟩
theorem cI_small (x y : Int) : cI x y = -1 ∨ cI x y = 0 ∨ cI x y = 1 := by unfold cI; split; simp; split <;> simp
theorem cL_small : ∀ x y, cL x y = -1 ∨ cL x y = 0 ∨ cL x y = 1
  | [], [] => by simp [cL]
  | [], _ :: _ => by simp [cL]
  | _ :: _, [] => by simp [cL]
  | x :: xs, y :: ys => by
    have h := cI_small x y
    have := cL_small xs ys
    simp only [cL]
    split <;> omega
abbrev RK := Int × Int × Int × Int × Int × Int × Int × Int × Int × List Int
def cR : RK → RK → Int := lexC cI (lexC cI (lexC cI (lexC cI (lexC cI (lexC cI (lexC cI (lexC cI (lexC cI cL))))))))
theorem cR_to : TO cR := cI_to.lex (cI_to.lex (cI_to.lex (cI_to.lex (cI_to.lex (cI_to.lex (cI_to.lex (cI_to.lex (cI_to.lex cL_to))))))))
def small (c : Int) : Prop := c = -1 ∨ c = 0 ∨ c = 1
theorem lex_small {α β : Type} {c1 : α → α → Int} {c2 : β → β → Int} (h1 : ∀ x y, small (c1 x y)) (h2 : ∀ x y, small (c2 x y)) (p q : α × β) : small (lexC c1 c2 p q) := by
  unfold lexC; split
  · exact h2 _ _
  · exact h1 _ _
theorem cR_small (p q : RK) : small (cR p q) := by
  have i := cI_small
  have l := cL_small
  exact lex_small i (lex_small i (lex_small i (lex_small i (lex_small i (lex_small i (lex_small i (lex_small i (lex_small i l)))))))) p q
theorem lex_first {α β : Type} {c1 : α → α → Int} {c2 : β → β → Int} (p q : α × β) (L : List Int) (h : c2 p.2 q.2 = firstNZ L) : lexC c1 c2 p q = firstNZ (c1 p.1 q.1 :: L) := by
  unfold lexC firstNZ; rw [h]
theorem one_first (c : Int) : c = firstNZ [c] := by simp [firstNZ]
/-- Better's order. -/
abbrev RB := Int × Int × Int × RK
def cB : RB → RB → Int := lexC cI (lexC (fun x y => cI y x) (lexC (fun x y => cI y x) cR))
theorem cB_to : TO cB := cI_to.lex (cJ_to.lex (cJ_to.lex cR_to))
theorem cB_small (p q : RB) : small (cB p q) := lex_small cI_small (lex_small (fun x y => cI_small y x) (lex_small (fun x y => cI_small y x) cR_small)) p q
theorem cmpNaN (x : Int) (w : World) : Calls Try.prog 53 #[.int .i64 x] w fun e w' => e = .returned (.bool false) ∧ w' = w := by
  have e : (x != x) = false := by simp
  go_enter Try.func53, Try.ntmps53
  go_wp2
  go_ret
  exact ⟨rfl, rfl⟩
theorem cmp_any (x y : Int) (w : World) : Calls Try.prog 38 #[.int .i64 x, .int .i64 y] w fun e w' => e = .returned (.int .i64 (cI x y)) ∧ w' = w := by
  have N := cmpNaN
  unfold cI
  go_enter Try.func38, Try.ntmps38
  by_cases h1 : x < y
  · rw [if_pos h1]
    go_wp2_with (go_at_call 53; refine (N _ _).mono ?_; rintro e w1 ⟨rfl, rfl⟩)
    go_ret
    exact ⟨rfl, rfl⟩
  · rw [if_neg h1]
    by_cases h2 : y < x
    · rw [if_pos h2]
      go_wp2_with (go_at_call 53; refine (N _ _).mono ?_; rintro e w1 ⟨rfl, rfl⟩)
      go_ret
      exact ⟨rfl, rfl⟩
    · rw [if_neg h2]
      go_wp2_with (go_at_call 53; refine (N _ _).mono ?_; rintro e w1 ⟨rfl, rfl⟩)
      go_ret
      exact ⟨rfl, rfl⟩
theorem cL_nil_left (y : List Int) : cL [] y = if y.length = 0 then 0 else -1 := by cases y <;> simp [cL]
set_option maxHeartbeats 2000000 in
theorem compare_ints {w : World} {b b' n n' c c' : Nat} {xs ys : List Int} (h : SR w b xs) (g : SR w b' ys) (hn : n = xs.length) (hn' : n' = ys.length) (n9 : n ≤ 1000) (n9' : n' ≤ 1000) :
    Calls Try.prog 41 #[.slice (some ⟨b, 0, none⟩) n c, .slice (some ⟨b', 0, none⟩) n' c'] w fun e w' => e = .returned (.int .i64 (cL xs ys)) ∧ w' = w := by
  have H3 := Lib.hid h
  have G3 := Lib.hid g
  have C := Lib.hid cmp_any
  obtain ⟨r, hr⟩ : ∃ r, r = cL xs ys := ⟨_, rfl⟩
  rw [← hr]
  have hr0 : Hid (r = cL (xs.drop 0) (ys.drop 0)) := Lib.hid hr
  replace hn := Lib.hid hn
  replace hn' := Lib.hid hn'
  clear h g hr
  go_enter Try.func41, Try.ntmps41
  go_wp2_with fail
  go_loop [11] (fun i => ∃ k : Nat, k ≤ n ∧ k ≤ n' ∧ i = .int .i64 (k : Int) ∧ Hid (r = cL (xs.drop k) (ys.drop k))) (fun i => n - (intOf i).toNat)
  case atStart => exact ⟨0, Nat.zero_le _, Nat.zero_le _, rfl, hr0⟩
  case round =>
    clear hr0
    obtain ⟨k, hk, hk', rfl, hr⟩ := hrel
    by_cases hkn : k < n
    · have kx : k < xs.length := by rw [← hn.out]; exact hkn
      have c1 := H3.out.2 k kx
      have dx : xs.drop k = xs.getD k 0 :: xs.drop (k + 1) := by rw [List.drop_eq_getElem_cons kx, List.getD_eq_getElem?_getD, List.getElem?_eq_getElem kx]; rfl
      rw [dx] at hr
      generalize xs.getD k 0 = x at *
      have kn : (k : Int) < (n : Int) := by omega
      replace dx := Lib.hid dx
      by_cases hkn' : k < n'
      · have ky : k < ys.length := by rw [← hn'.out]; exact hkn'
        have c2 := G3.out.2 k ky
        have dy : ys.drop k = ys.getD k 0 :: ys.drop (k + 1) := by rw [List.drop_eq_getElem_cons ky, List.getD_eq_getElem?_getD, List.getElem?_eq_getElem ky]; rfl
        rw [dy] at hr
        generalize ys.getD k 0 = y at *
        have kn' : ((k : Int) ≥ (n' : Int)) = False := by simp; omega
        have kn2 : (k : Int) < (n' : Int) := by omega
        replace dy := Lib.hid dy
        obtain ⟨cv, hcv⟩ : ∃ cv, cv = cI x y := ⟨_, rfl⟩
        have CC := C.out x y
        rw [← hcv] at CC
        replace CC := Lib.hid CC
        have hr2 : Hid (r = if cv = 0 then cL (xs.drop (k + 1)) (ys.drop (k + 1)) else cv) := Lib.hid (by rw [hcv]; exact hr.out)
        clear hr
        replace hcv := Lib.hid hcv
        by_cases h0 : cv = 0
        · subst h0
          go_wp2_with (go_at_call 38; with_reducible refine (CC.out _).mono ?_; rintro e w1 ⟨rfl, hw⟩; replace hw := hw.symm; subst hw)
          go_round
          case rel => exact ⟨k + 1, by omega, by omega, by go_num, Lib.hid (by simpa using hr2.out)⟩
          case measure => simp [intOf]; omega
        · have e0 : (cv != 0) = true := by simp [h0]
          have hr3 : r = cv := (by have := hr2.out; rwa [if_neg h0] at this)
          subst hr3
          go_wp2_with (go_at_call 38; with_reducible refine (CC.out _).mono ?_; rintro e w1 ⟨rfl, hw⟩; replace hw := hw.symm; subst hw)
          go_ret
          exact ⟨rfl, rfl⟩
      · have kn' : ((k : Int) ≥ (n' : Int)) = True := by simp; omega
        have dy : ys.drop k = [] := List.drop_eq_nil_iff.2 (by rw [← hn'.out]; omega)
        have hr3 : r = 1 := (by have := hr.out; rw [dy] at this; exact this)
        subst hr3
        clear dy
        go_wp2_with fail
        go_ret
        exact ⟨rfl, rfl⟩
    · obtain rfl : k = n := by omega
      have dx : xs.drop k = [] := List.drop_eq_nil_iff.2 (by rw [← hn.out]; omega)
      rw [dx, cL_nil_left] at hr
      clear dx
      by_cases he : k < n'
      · have e1 : (k : Int) < (n' : Int) := by omega
        have hr3 : r = -1 := (by have := hr.out; rw [if_neg (by rw [List.length_drop, ← hn'.out]; omega)] at this; exact this)
        subst hr3
        clear hr
        go_wp2_with fail
        go_ret
        exact ⟨rfl, rfl⟩
      · have e1 : ¬ ((k : Int) < (n' : Int)) := by omega
        have hr3 : r = 0 := (by have := hr.out; rw [if_pos (by rw [List.length_drop, ← hn'.out]; omega)] at this; exact this)
        subst hr3
        clear hr
        go_wp2_with fail
        go_ret
        exact ⟨rfl, rfl⟩
end Rec
end Go.Proofs.Ytojfnegogdllfaa
