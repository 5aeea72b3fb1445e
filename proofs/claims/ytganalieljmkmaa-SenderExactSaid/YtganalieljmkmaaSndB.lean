/- Whether a number is in one of some spans: the program's and the reference's; In of the reference. -/
import Derived.Test.YtganalieljmkmaaSndA
set_option linter.unusedVariables false
set_option linter.unusedSimpArgs false
namespace Go.Proofs.Ytganalieljmkmaa
open Go.RowKit
namespace Sp
open Dice
theorem in_any (n lo hi : Int) (w : World) :
    Calls Try.prog 28 #[.int .i64 n, .int .i64 lo, .int .i64 hi] w fun e w' => e = .returned (.bool (decide (lo ≤ n ∧ n ≤ hi))) ∧ w' = w := by
  by_cases h1 : lo ≤ n
  · by_cases h2 : n ≤ hi
    · rw [decide_eq_true (And.intro h1 h2)]
      go_enter Try.func28, Try.ntmps28
      go_wp2
      go_ret
      exact ⟨rfl, rfl⟩
    · rw [decide_eq_false (fun h => h2 h.2)]
      go_enter Try.func28, Try.ntmps28
      go_wp2
      go_ret
      exact ⟨rfl, rfl⟩
  · rw [decide_eq_false (fun h => h1 h.1)]
    go_enter Try.func28, Try.ntmps28
    go_wp2
    go_ret
    exact ⟨rfl, rfl⟩
theorem hasB_stop (l : List (Int × Int)) (x : Int) (k : Nat) (p : Int × Int) (hp : l[k]? = some p) (h : p.1 ≤ x ∧ x < p.2) : hasB l x = true :=
  List.any_eq_true.2 ⟨p, List.mem_of_getElem? hp, decide_eq_true h⟩
theorem hasB_none (l : List (Int × Int)) (x : Int) (n : Nat) (hn : l.length = n) (h : ∀ j p, j < n → l[j]? = some p → ¬ (p.1 ≤ x ∧ x < p.2)) : hasB l x = false := by
  refine List.any_eq_false.2 fun p hp => ?_
  obtain ⟨j, hj, rfl⟩ := List.mem_iff_getElem.1 hp
  simpa using h j _ (by omega) (List.getElem?_eq_getElem hj)
theorem span_cells {w : World} {B g c n : Nat} {l : List (Int × Int)} (hn : l.length = n) (h : w.ownsRow B 56 2 (.slice (some ⟨g, 0, none⟩) n c) n (cells2 l)) (j : Nat) (p : Int × Int) (hp : l[j]? = some p) :
    w.cell? ⟨g, j * 2, none⟩ = some (.int .i64 p.1) ∧ w.cell? ⟨g, j * 2 + 1, none⟩ = some (.int .i64 p.2) := by
  have hj : j < n := by rw [← hn]; exact (List.getElem?_eq_some_iff.1 hp).1
  rw [World.ownsRow.cellAt h _ (by omega), World.ownsRow.cellAt h _ (by omega)]
  exact cells2_get l j p hp
set_option maxHeartbeats 2000000 in
theorem inSome_any {w : World} {B : Nat} {v : Value} {l : List (Int × Int)} (x : Int) (h : Spans w B v l) (hl9 : l.length ≤ 1000) :
    Calls Try.prog 29 #[v, .int .i64 x] w fun e w' => e = .returned (.bool (hasB l x)) ∧ Below w.heap.size w w' := by
  obtain ⟨r, hr⟩ : ∃ r, hasB l x = r := ⟨_, rfl⟩
  rw [hr]
  replace hr := Lib.hid hr
  rcases own_shape h with ⟨rfl, hl⟩ | ⟨g, c, rfl, hc, hg⟩
  · obtain rfl : l = [] := List.length_eq_zero_iff.1 hl
    obtain rfl : r = false := by rw [← hr.out]; rfl
    go_enter Try.func29, Try.ntmps29
    go_wp2
    go_loop [9] (fun i => i = .int .i64 0) (fun _ => 0)
    case atStart => rfl
    case round =>
      subst hrel
      go_wp2
      go_ret
      exact ⟨rfl, Below.refl _ _⟩
  · obtain ⟨n, hn⟩ : ∃ n, l.length = n := ⟨_, rfl⟩
    have h' : w.ownsRow B 56 2 (.slice (some ⟨g, 0, none⟩) n c) n (cells2 l) := by rw [← hn]; exact h
    rw [hn] at hc hl9 ⊢
    have HC := Lib.hid (span_cells hn h')
    replace hn := Lib.hid hn
    clear h h'
    have hB := Lib.hid (Below.refl w.heap.size w)
    go_enter Try.func29, Try.ntmps29
    go_wp2
    go_loopw [9] (fun i wr => ∃ k : Nat, k ≤ n ∧ i = .int .i64 (k : Int) ∧ Hid (∀ j p, j < k → l[j]? = some p → ¬ (p.1 ≤ x ∧ x < p.2)) ∧ Hid (Below w.heap.size w wr)) (fun i _ => (n - intOf i).toNat)
    case atStart => exact ⟨0, Nat.zero_le _, rfl, Lib.hid (fun j p hj => by omega), hB⟩
    case round =>
      clear hB
      obtain ⟨k, hk, rfl, HN, hB⟩ := hrel
      by_cases hlt : k < n
      · have hlt' : (k : Int) < n := by omega
        obtain ⟨⟨f, t⟩, hp⟩ : ∃ p, l[k]? = some p := ⟨l[k]'(by rw [hn.out]; exact hlt), List.getElem?_eq_getElem _⟩
        have c0 : wr.cell? ⟨g, k * 2, none⟩ = some (.int .i64 f) := (hB.out.cell (p := ⟨g, k * 2, none⟩) hg).trans (HC.out k _ hp).1
        have c1 : wr.cell? ⟨g, k * 2 + 1, none⟩ = some (.int .i64 t) := (hB.out.cell (p := ⟨g, k * 2 + 1, none⟩) hg).trans (HC.out k _ hp).2
        by_cases h1 : f ≤ x ∧ x < t
        · obtain rfl : r = true := by rw [← hr.out]; exact hasB_stop l x k _ hp h1
          obtain ⟨h1, h2⟩ := h1
          replace hp := Lib.hid hp
          go_wp2
          go_ret
          exact ⟨rfl, hB.out.alloc hB.out.size _⟩
        · have HN' : Hid (∀ j p, j < k + 1 → l[j]? = some p → ¬ (p.1 ≤ x ∧ x < p.2)) := Lib.hid (fun j p hj hjp => by
            by_cases e : j = k
            · subst e; rw [hp] at hjp; cases hjp; exact h1
            · exact HN.out j p (by omega) hjp)
          replace hp := Lib.hid hp
          by_cases h2 : f ≤ x
          · have h3 : t ≤ x := by omega
            clear h1 HN
            go_wp2_with fail
            go_roundw
            case rel => exact ⟨k + 1, by omega, by go_num, HN', Lib.hid (hB.out.alloc hB.out.size _)⟩
            case measure => simp [intOf]; omega
          · have h3 : x < f := by omega
            clear h1 HN h2
            go_wp2_with fail
            go_roundw
            case rel => exact ⟨k + 1, by omega, by go_num, HN', Lib.hid (hB.out.alloc hB.out.size _)⟩
            case measure => simp [intOf]; omega
      · obtain rfl : k = n := by omega
        obtain rfl : r = false := by rw [← hr.out]; exact hasB_none l x k hn.out HN.out
        go_wp2
        go_ret
        exact ⟨rfl, hB.out⟩
set_option maxHeartbeats 2000000 in
theorem has_any {w : World} {B : Nat} {v : Value} {l : List (Int × Int)} (x : Int) (h : Spans w B v l) (hl9 : l.length ≤ 1000) :
    Calls Try.prog 26 #[v, .int .i64 x] w fun e w' => e = .returned (.bool (hasB l x)) ∧ Below w.heap.size w w' := by
  obtain ⟨r, hr⟩ : ∃ r, hasB l x = r := ⟨_, rfl⟩
  rw [hr]
  replace hr := Lib.hid hr
  rcases own_shape h with ⟨rfl, hl⟩ | ⟨g, c, rfl, hc, hg⟩
  · obtain rfl : l = [] := List.length_eq_zero_iff.1 hl
    obtain rfl : r = false := by rw [← hr.out]; rfl
    go_enter Try.func26, Try.ntmps26
    go_wp2
    go_loop [5] (fun i => i = .int .i64 0) (fun _ => 0)
    case atStart => rfl
    case round =>
      subst hrel
      go_wp2
      go_ret
      exact ⟨rfl, Below.refl _ _⟩
  · obtain ⟨n, hn⟩ : ∃ n, l.length = n := ⟨_, rfl⟩
    have h' : w.ownsRow B 56 2 (.slice (some ⟨g, 0, none⟩) n c) n (cells2 l) := by rw [← hn]; exact h
    rw [hn] at hc hl9 ⊢
    have HC := Lib.hid (span_cells hn h')
    replace hn := Lib.hid hn
    clear h h'
    have hB := Lib.hid (Below.refl w.heap.size w)
    go_enter Try.func26, Try.ntmps26
    go_wp2
    go_loopw [5] (fun i wr => ∃ k : Nat, k ≤ n ∧ i = .int .i64 (k : Int) ∧ Hid (∀ j p, j < k → l[j]? = some p → ¬ (p.1 ≤ x ∧ x < p.2)) ∧ Hid (Below w.heap.size w wr)) (fun i _ => (n - intOf i).toNat)
    case atStart => exact ⟨0, Nat.zero_le _, rfl, Lib.hid (fun j p hj => by omega), hB⟩
    case round =>
      clear hB
      obtain ⟨k, hk, rfl, HN, hB⟩ := hrel
      by_cases hlt : k < n
      · have hlt' : (k : Int) < n := by omega
        obtain ⟨⟨f, t⟩, hp⟩ : ∃ p, l[k]? = some p := ⟨l[k]'(by rw [hn.out]; exact hlt), List.getElem?_eq_getElem _⟩
        have c0 : wr.cell? ⟨g, k * 2, none⟩ = some (.int .i64 f) := (hB.out.cell (p := ⟨g, k * 2, none⟩) hg).trans (HC.out k _ hp).1
        have c1 : wr.cell? ⟨g, k * 2 + 1, none⟩ = some (.int .i64 t) := (hB.out.cell (p := ⟨g, k * 2 + 1, none⟩) hg).trans (HC.out k _ hp).2
        by_cases h1 : f ≤ x ∧ x < t
        · obtain rfl : r = true := by rw [← hr.out]; exact hasB_stop l x k _ hp h1
          obtain ⟨h1, h2⟩ := h1
          replace hp := Lib.hid hp
          go_wp2
          go_ret
          exact ⟨rfl, hB.out⟩
        · have HN' : Hid (∀ j p, j < k + 1 → l[j]? = some p → ¬ (p.1 ≤ x ∧ x < p.2)) := Lib.hid (fun j p hj hjp => by
            by_cases e : j = k
            · subst e; rw [hp] at hjp; cases hjp; exact h1
            · exact HN.out j p (by omega) hjp)
          replace hp := Lib.hid hp
          by_cases h2 : f ≤ x
          · have h3 : t ≤ x := by omega
            clear h1 HN
            go_wp2_with fail
            go_roundw
            case rel => exact ⟨k + 1, by omega, by go_num, HN', hB⟩
            case measure => simp [intOf]; omega
          · have h3 : x < f := by omega
            clear h1 HN h2
            go_wp2_with fail
            go_roundw
            case rel => exact ⟨k + 1, by omega, by go_num, HN', hB⟩
            case measure => simp [intOf]; omega
      · obtain rfl : k = n := by omega
        obtain rfl : r = false := by rw [← hr.out]; exact hasB_none l x k hn.out HN.out
        go_wp2
        go_ret
        exact ⟨rfl, hB.out⟩
end Sp
end Go.Proofs.Ytganalieljmkmaa
