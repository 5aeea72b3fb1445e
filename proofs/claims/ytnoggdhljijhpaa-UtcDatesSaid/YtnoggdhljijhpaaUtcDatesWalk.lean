/- The walk of UtcDates. -/
import Derived.Test.YtnoggdhljijhpaaUtcS
import Derived.Test.YtnoggdhljijhpaaUtcB
set_option linter.unusedVariables false
set_option linter.unusedSimpArgs false
namespace Go.Proofs.Ytnoggdhljijhpaa
open Go.RowKit
namespace Laws
open Utc
theorem days_both (y m d : Int) : ∃ (v : Int) (b : Bool), (∀ w, Calls Try.prog 7 #[.int .i64 y, .int .i64 m, .int .i64 d] w fun e w' => e = .returned (.tuple #[.int .i64 v, .bool b]) ∧ w' = w) ∧ (∀ w, Calls Try.prog 8 #[.int .i64 y, .int .i64 m, .int .i64 d] w fun e w' => e = .returned (.tuple #[.int .i64 v, .bool b]) ∧ w' = w) := by
  by_cases h : y < 1970 ∨ 2300 < y ∨ m < 1 ∨ 12 < m ∨ d < 1 ∨ dim y m < d
  · exact ⟨0, false, fun w => days_no y m d w h, fun w => rdays_no y m d w h⟩
  · have hv : VD y m d := ⟨by omega, by omega, by omega, by omega⟩
    exact ⟨_, true, fun w => days_yes y m d w hv (by omega) (by omega), fun w => rdays_yes y m d w hv (by omega) (by omega)⟩
theorem date_both (n : Int) : ∃ (y m d : Int) (b : Bool) (v : Int), (∀ w, Calls Try.prog 9 #[.int .i64 n] w fun e w' => e = .returned (.tuple #[.int .i64 y, .int .i64 m, .int .i64 d]) ∧ w' = w) ∧ (∀ w, Calls Try.prog 10 #[.int .i64 n] w fun e w' => e = .returned (.tuple #[.int .i64 y, .int .i64 m, .int .i64 d]) ∧ w' = w) ∧ (∀ w, Calls Try.prog 7 #[.int .i64 y, .int .i64 m, .int .i64 d] w fun e w' => e = .returned (.tuple #[.int .i64 v, .bool b]) ∧ w' = w) ∧ (b = true → v = n) := by
  by_cases h : n < 0 ∨ 120894 < n
  · exact ⟨0, 0, 0, false, 0, fun w => date_no n w h, fun w => rdate_no n w h, fun w => days_no 0 0 0 w (by omega), fun h => by cases h⟩
  · obtain ⟨a, b, _, _, _, _, c⟩ := date_ok n (by omega) (by omega)
    exact ⟨_, _, _, true, n, fun w => date_yes n w (by omega) (by omega), fun w => rdate_yes n w (by omega) (by omega), fun w => by have := days_yes _ _ _ w (vd_date n (by omega) (by omega)) a b; rwa [c] at this, fun _ => rfl⟩
set_option maxRecDepth 100000 in
set_option maxHeartbeats 8000000 in
theorem utcDates_walk (a0 a1 a2 a3 : Int) (w0 : (Lit.int .i64 a0).wf = true) (w1 : (Lit.int .i64 a1).wf = true) (w2 : (Lit.int .i64 a2).wf = true) (w3 : (Lit.int .u32 a3).wf = true) (w : World) :
    Calls Try.prog 3 #[.int .i64 a0, .int .i64 a1, .int .i64 a2, .int .u32 a3] w fun e w' => e = .returned (.bool true) ∧ Below w.heap.size w w' := by
  obtain ⟨n0, n9⟩ : 0 ≤ a3 ∧ a3 ≤ 4294967295 := Ma.wf_u32 w3
  clear w3
  go_enter Try.func3, Try.ntmps3
  go_wp2_with fail
  -- the dates
  generalize 1970 + a3 % 331 = c0 at *
  generalize 1 + a3 / 512 % 12 = c1 at *
  generalize 1 + a3 / 8192 % 31 = c2 at *
  have P0 := heap_alloc_new w (.cells #[.int .i64 a0, .int .i64 a1, .int .i64 a2, .int .i64 c0, .int .i64 c1, .int .i64 c2] 23)
  have B0 := Lib.hid (Dice.new_block (w := w) (.cells #[.int .i64 a0, .int .i64 a1, .int .i64 a2, .int .i64 c0, .int .i64 c1, .int .i64 c2] 23))
  obtain ⟨A, hA⟩ : ∃ A, A = w.alloc (.cells #[.int .i64 a0, .int .i64 a1, .int .i64 a2, .int .i64 c0, .int .i64 c1, .int .i64 c2] 23) := ⟨_, rfl⟩
  rw [← hA] at P0 B0 ⊢
  obtain ⟨z, hz⟩ : ∃ z, z = w.heap.size := ⟨_, rfl⟩
  rw [← hz] at P0 ⊢
  replace hA := Lib.hid hA
  replace hz := Lib.hid hz
  have PA := Lib.hid fun wx (hb : Below A.heap.size A wx) => (hb.block z (Array.getElem?_eq_some_iff.1 P0).1).trans P0
  clear P0
  go_loopw [46] (fun s46 wr => ∃ k : Nat, k ≤ 2 ∧ s46 = .int .i64 k ∧ Hid (Below A.heap.size A wr)) (fun s46 _ => (2 - intOf s46).toNat)
  case atStart => exact ⟨0, by omega, rfl, Lib.hid (Below.refl _ _)⟩
  case round =>
    obtain ⟨k, hk, rfl, BC⟩ := hrel
    have hk' : k = 0 ∨ k = 1 ∨ k = 2 := by omega
    rcases hk' with rfl | rfl | rfl
    · rw [show (((0 : Nat) : Int)) = 0 from rfl]
      obtain ⟨v, b, D1, D2⟩ := days_both a0 a1 a2
      replace D1 := Lib.hid D1
      replace D2 := Lib.hid D2
      have Pw := Lib.hid (PA.out _ BC.out)
      go_wp2_with (first | ((with_reducible refine Mid.ldm 23 (.tmp 48) z 0 [.int .i64 a0, .int .i64 a1, .int .i64 a2] (Mid.range Pw.out 0 _ rfl) ?_ ?_ ?_ ?_ ?_ ?_); (· rfl); (· rfl); (· first | rfl | simp [Act.eval]); (· exact ⟨_, rfl, rfl⟩); (· kernel_rfl)) | (go_at_call 7; with_reducible refine (D1.out _).mono ?_; rintro e w' ⟨rfl, hw⟩; subst hw) | (go_at_call 8; with_reducible refine (D2.out _).mono ?_; rintro e w' ⟨rfl, hw⟩; subst hw))
      exact ⟨⟨1, by omega, rfl, Lib.hid (BC.out.alloc BC.out.size _)⟩, by simp [intOf]⟩
    · rw [show (((1 : Nat) : Int)) = 1 from rfl]
      obtain ⟨v, b, D1, D2⟩ := days_both c0 c1 c2
      replace D1 := Lib.hid D1
      replace D2 := Lib.hid D2
      have Pw := Lib.hid (PA.out _ BC.out)
      go_wp2_with (first | ((with_reducible refine Mid.ldm 23 (.tmp 48) z 3 [.int .i64 c0, .int .i64 c1, .int .i64 c2] (Mid.range Pw.out 3 _ rfl) ?_ ?_ ?_ ?_ ?_ ?_); (· rfl); (· rfl); (· first | rfl | simp [Act.eval]); (· exact ⟨_, rfl, rfl⟩); (· kernel_rfl)) | (go_at_call 7; with_reducible refine (D1.out _).mono ?_; rintro e w' ⟨rfl, hw⟩; subst hw) | (go_at_call 8; with_reducible refine (D2.out _).mono ?_; rintro e w' ⟨rfl, hw⟩; subst hw))
      exact ⟨⟨2, by omega, rfl, Lib.hid (BC.out.alloc BC.out.size _)⟩, by simp [intOf]⟩
    · rw [show (((2 : Nat) : Int)) = 2 from rfl]
      go_wp2_with fail
      obtain ⟨u, hu⟩ : ∃ u, u = a3 % 121000 := ⟨_, rfl⟩
      rw [← hu]
      replace hu := Lib.hid hu
      have P2 := heap_alloc_new wr (.cells #[.int .i64 a2, .int .i64 u] 3)
      have hwB : Hid (Below A.heap.size A (wr.alloc (.cells #[.int .i64 a2, .int .i64 u] 3))) := Lib.hid (BC.out.alloc BC.out.size _)
      obtain ⟨C, hC⟩ : ∃ C, C = wr.alloc (.cells #[.int .i64 a2, .int .i64 u] 3) := ⟨_, rfl⟩
      rw [← hC] at P2 hwB ⊢
      obtain ⟨g, hg⟩ : ∃ g, g = wr.heap.size := ⟨_, rfl⟩
      rw [← hg] at P2 ⊢
      replace hC := Lib.hid hC
      replace hg := Lib.hid hg
      have PC := Lib.hid fun wx (hb : Below C.heap.size C wx) => (hb.block g (Array.getElem?_eq_some_iff.1 P2).1).trans P2
      clear P2 BC
      go_loopw [85] (fun s85 wr => ∃ k : Nat, k ≤ 2 ∧ s85 = .int .i64 k ∧ Hid (Below C.heap.size C wr)) (fun s85 _ => (2 - intOf s85).toNat)
      case atStart => exact ⟨0, by omega, rfl, Lib.hid (Below.refl _ _)⟩
      case round =>
        obtain ⟨k, hk, rfl, BC⟩ := hrel
        have hk' : k = 0 ∨ k = 1 ∨ k = 2 := by omega
        rcases hk' with rfl | rfl | rfl
        · rw [show (((0 : Nat) : Int)) = 0 from rfl]
          obtain ⟨y, m, d, b, v, D1, D2, D3, hb⟩ := date_both a2
          replace D1 := Lib.hid D1
          replace D2 := Lib.hid D2
          replace D3 := Lib.hid D3
          have c := cell_of_row _ _ 0 _ _ _ (PC.out _ BC.out)
          simp only [List.getElem?_toArray, List.getElem?_cons_zero, List.getElem?_cons_succ] at c
          have hb' : (b = true ∧ v = a2) ∨ b = false := by cases b with | true => exact .inl ⟨rfl, hb rfl⟩ | false => exact .inr rfl
          clear hb
          rcases hb' with ⟨rfl, rfl⟩ | rfl
          all_goals
            go_wp2_with (first | (go_at_call 9; with_reducible refine (D1.out _).mono ?_; rintro e w' ⟨rfl, hw⟩; subst hw) | (go_at_call 10; with_reducible refine (D2.out _).mono ?_; rintro e w' ⟨rfl, hw⟩; subst hw) | (go_at_call 7; with_reducible refine (D3.out _).mono ?_; rintro e w' ⟨rfl, hw⟩; subst hw))
            exact ⟨⟨1, by omega, rfl, BC⟩, by simp [intOf]⟩
        · rw [show (((1 : Nat) : Int)) = 1 from rfl]
          obtain ⟨y, m, d, b, v, D1, D2, D3, hb⟩ := date_both u
          replace D1 := Lib.hid D1
          replace D2 := Lib.hid D2
          replace D3 := Lib.hid D3
          have c := cell_of_row _ _ 1 _ _ _ (PC.out _ BC.out)
          simp only [List.getElem?_toArray, List.getElem?_cons_zero, List.getElem?_cons_succ] at c
          have hb' : (b = true ∧ v = u) ∨ b = false := by cases b with | true => exact .inl ⟨rfl, hb rfl⟩ | false => exact .inr rfl
          clear hb
          rcases hb' with ⟨rfl, rfl⟩ | rfl
          all_goals
            go_wp2_with (first | (go_at_call 9; with_reducible refine (D1.out _).mono ?_; rintro e w' ⟨rfl, hw⟩; subst hw) | (go_at_call 10; with_reducible refine (D2.out _).mono ?_; rintro e w' ⟨rfl, hw⟩; subst hw) | (go_at_call 7; with_reducible refine (D3.out _).mono ?_; rintro e w' ⟨rfl, hw⟩; subst hw))
            exact ⟨⟨2, by omega, rfl, BC⟩, by simp [intOf]⟩
        · rw [show (((2 : Nat) : Int)) = 2 from rfl]
          go_wp2_with (go_at_call 11; refine (Utc.sane_any _).mono ?_; rintro e w9 ⟨rfl, hb9⟩)
          go_ret
          exact ⟨rfl, B0.out.trans ((hwB.out.trans ((BC.out.trans (hb9.mono BC.out.size)).mono hwB.out.size)).mono B0.out.size)⟩
end Laws
end Go.Proofs.Ytnoggdhljijhpaa
