/- Contracts of common.Within, rule.Meets, rule.apart, magnitude.Agree. -/
import Derived.Test.YticjmblajloefaaPlace
set_option linter.unusedVariables false
namespace Go.Proofs.Yticjmblajloefaa
open Go.RowKit
namespace Ru
theorem within_yes (n lo hi : Int) (w : World) (h1 : lo ≤ n) (h2 : n ≤ hi) :
    Calls Try.prog 26 #[.int .i64 n, .int .i64 lo, .int .i64 hi] w fun e w' => e = .returned (.bool true) ∧ w' = w := by
  go_enter Try.func26, Try.ntmps26
  go_wp2
  go_ret
  exact ⟨rfl, rfl⟩
theorem within_any (n lo hi : Int) (w : World) :
    Calls Try.prog 26 #[.int .i64 n, .int .i64 lo, .int .i64 hi] w fun e w' => e = .returned (.bool (decide (lo ≤ n ∧ n ≤ hi))) ∧ w' = w := by
  by_cases h1 : lo ≤ n
  · by_cases h2 : n ≤ hi
    · rw [decide_eq_true (And.intro h1 h2)]; exact within_yes n lo hi w h1 h2
    · rw [decide_eq_false (fun h => h2 h.2)]
      go_enter Try.func26, Try.ntmps26
      go_wp2
      go_ret
      exact ⟨rfl, rfl⟩
  · rw [decide_eq_false (fun h => h1 h.1)]
    go_enter Try.func26, Try.ntmps26
    go_wp2
    go_ret
    exact ⟨rfl, rfl⟩
/-- An event meets a rule. -/
def Mt (rM rP rF : Int) (pn : Nat) (Mi L C : Int) : Prop := 1 ≤ C ∧ rM ≤ L ∧ rP ≤ (pn : Int) ∧ Mi ≤ rF
instance (rM rP rF : Int) (pn : Nat) (Mi L C : Int) : Decidable (Mt rM rP rF pn Mi L C) := inferInstanceAs (Decidable (_ ∧ _ ∧ _ ∧ _))
set_option maxHeartbeats 4000000 in
theorem meets_any (rM rP rF rW : Int) (s0 s1 s2 s3 : ByteArray) (n1 n2 n3 n4 n5 : Int) (pa : Option Addr) (pn pc : Nat) (X Y Z T Mi Lo A1 A2 A3 A4 A5 A6 L H C : Int) (w : World) :
    Calls Try.prog 10 #[.agg #[.int .i64 rM, .int .i64 rP, .int .i64 rF, .int .i64 rW], .agg #[.string s0, .string s1, .string s2, .string s3, .int .i64 n1, .int .i64 n2, .int .i64 n3, .int .i64 n4, .int .i64 n5, .slice pa pn pc, .int .i64 X, .int .i64 Y, .int .i64 Z, .int .i64 T, .int .i64 Mi, .int .i64 Lo, .int .i64 A1, .int .i64 A2, .int .i64 A3, .int .i64 A4, .int .i64 A5, .int .i64 A6, .int .i64 L, .int .i64 H, .int .i64 C]] w fun e w' => e = .returned (.bool (decide (Mt rM rP rF pn Mi L C))) ∧ Below w.heap.size w w' := by
  have hB := fun o1 o2 o3 => Lib.hid ((((Below.refl w.heap.size w).alloc (Nat.le_refl _) o1).alloc (by simp) o2).alloc (by simp; omega) o3)
  by_cases h1 : 1 ≤ C
  · by_cases h2 : rM ≤ L
    · by_cases h3 : rP ≤ (pn : Int)
      · by_cases h4 : Mi ≤ rF
        · rw [decide_eq_true (show Mt rM rP rF pn Mi L C from ⟨h1, h2, h3, h4⟩)]
          go_enter Try.func10, Try.ntmps10
          go_wp2
          go_ret
          exact ⟨rfl, (hB _ _ _).out⟩
        · rw [decide_eq_false (show ¬ Mt rM rP rF pn Mi L C from fun h => h4 h.2.2.2)]
          go_enter Try.func10, Try.ntmps10
          go_wp2
          go_ret
          exact ⟨rfl, (hB _ _ _).out⟩
      · rw [decide_eq_false (show ¬ Mt rM rP rF pn Mi L C from fun h => h3 h.2.2.1)]
        go_enter Try.func10, Try.ntmps10
        go_wp2
        go_ret
        exact ⟨rfl, (hB _ _ _).out⟩
    · rw [decide_eq_false (show ¬ Mt rM rP rF pn Mi L C from fun h => h2 h.2.1)]
      go_enter Try.func10, Try.ntmps10
      go_wp2
      go_ret
      exact ⟨rfl, (hB _ _ _).out⟩
  · rw [decide_eq_false (show ¬ Mt rM rP rF pn Mi L C from fun h => h1 h.1)]
    go_enter Try.func10, Try.ntmps10
    go_wp2
    go_ret
    exact ⟨rfl, (hB _ _ _).out⟩
/-- Two intervals of magnitudes that overlap agree. -/
theorem agree_same (a b : Int) (w : World) (h : a ≤ b) :
    Calls Try.prog 25 #[.agg #[.int .i64 a, .int .i64 b], .agg #[.int .i64 a, .int .i64 b]] w fun e w' => e = .returned (.bool true) ∧ Below w.heap.size w w' := by
  have e1 : max a a = a := Int.max_self a
  have e2 : min b b = b := Int.min_self b
  go_enter Try.func25, Try.ntmps25
  go_wp2
  go_ret
  exact ⟨by simp, ((Below.refl w.heap.size w).alloc (Nat.le_refl _) _).alloc (by simp) _⟩
end Ru
end Go.Proofs.Yticjmblajloefaa
