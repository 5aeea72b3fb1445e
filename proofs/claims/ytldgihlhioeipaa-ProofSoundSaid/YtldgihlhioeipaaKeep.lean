/- Contracts of package keep: numbers in ranges, and numbers out of a list. -/
import Derived.Test.YtldgihlhioeipaaRows
import Derived.Test.YtldgihlhioeipaaMath
import Derived.Test.YtldgihlhioeipaaBuf
import Derived.ProofKit
import Derived.Outline
import Derived.Handy
import Derived.WalkSpells
import Derived.WalkLawsBesides
import Derived.Deep.QuietTactic
import Derived.BigQuiet
import Derived.Lib.Hide
import Derived.Laws.Tables
import Derived.Laws.Rows
namespace Go.Proofs.Ytldgihlhioeipaa
open Go.RowKit
namespace Keep
theorem tmod_fix (x n : Int) (h : 0 < n) : x % n = if x.tmod n < 0 then x.tmod n + n else x.tmod n := by
  rw [Int.tmod_eq_emod]
  have a := Int.emod_nonneg x (show n ≠ 0 by omega)
  have b := Int.emod_lt_of_pos x h
  have e : ((n.natAbs : Int)) = n := by omega
  by_cases hd : 0 ≤ x ∨ n ∣ x
  · rw [if_pos hd]
    rw [if_neg (by omega)]; omega
  · rw [if_neg hd]
    have : x % n ≠ 0 := fun h0 => hd (.inr (Int.dvd_of_emod_eq_zero h0))
    rw [if_pos (by omega)]; omega
theorem tmod_bd (x n : Int) (h : 0 < n) : -n < x.tmod n ∧ x.tmod n < n :=
  ⟨Int.lt_tmod_of_pos x h, Int.tmod_lt_of_pos x h⟩
theorem ret1 {k : IntKind} {a b : Int} (h : a = b) : Ending.returned (.int k a) = .returned (.int k b) := by rw [h]
theorem mod_any (x n : Int) (w : World) (h1 : 1 ≤ n) (h2 : n ≤ 4611686018427387904) :
    Calls Try.prog 23 #[.int .i64 x, .int .i64 n] w fun e w' => e = .returned (.int .i64 (x % n)) ∧ w' = w := by
  obtain ⟨r1, r2⟩ := tmod_bd x n (by omega)
  have hf := Lib.hid (tmod_fix x n (by omega))
  have d2 : decide (n < 1) = false := by simp; omega
  by_cases hr : x.tmod n < 0
  · have hq : Hid (x % n = x.tmod n + n) := by rw [hf.out, if_pos hr]; exact Lib.hid rfl
    clear hf
    rw [hq.out]
    clear hq
    go_enter Try.func23, Try.ntmps23
    go_wp2
    go_ret
    exact ⟨rfl, rfl⟩
  · have hq : Hid (x % n = x.tmod n) := by rw [hf.out, if_neg hr]; exact Lib.hid rfl
    clear hf
    rw [hq.out]
    clear hq
    go_enter Try.func23, Try.ntmps23
    go_wp2
    go_ret
    exact ⟨rfl, rfl⟩
end Keep
end Go.Proofs.Ytldgihlhioeipaa
