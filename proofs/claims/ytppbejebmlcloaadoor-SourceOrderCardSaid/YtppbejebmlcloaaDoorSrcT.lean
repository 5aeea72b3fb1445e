/- slices.Compact of identifiers; source.Sort. -/
import Derived.Test.YtppbejebmlcloaaDoorSrcQ
import Derived.Laws.CopyRow
set_option linter.unusedVariables false
set_option linter.unusedSimpArgs false
namespace Go.Proofs.YtppbejebmlcloaaDoor
open Go.RowKit Dice
namespace Sc
def pushN (C : List Q4) (x : Q4) : List Q4 := if C.getLast? = some x then C else C ++ [x]
/-- A list without neighbouring repetitions. -/
def cmpct (L : List Q4) : List Q4 := L.foldl pushN []
theorem cmpct_snoc (L : List Q4) (x : Q4) : cmpct (L ++ [x]) = pushN (cmpct L) x := by simp [cmpct, List.foldl_append]
theorem take_snocQ (L : List Q4) (k : Nat) (p : Q4) (h : L[k]? = some p) : L.take (k + 1) = L.take k ++ [p] := by
  obtain ⟨hk, rfl⟩ := List.getElem?_eq_some_iff.1 h
  rw [List.take_succ_eq_append_getElem hk]
theorem push_last (C : List Q4) (x : Q4) : (pushN C x).getLast? = some x := by
  unfold pushN
  split
  · assumption
  · simp
theorem cmpct_take (L : List Q4) (k : Nat) (p : Q4) (h : L[k]? = some p) : cmpct (L.take (k + 1)) = pushN (cmpct (L.take k)) p := by
  rw [take_snocQ L k p h, cmpct_snoc]
theorem cmpct_last (L : List Q4) (k : Nat) (p : Q4) (h : L[k]? = some p) : (cmpct (L.take (k + 1))).getLast? = some p := by
  rw [cmpct_take L k p h, push_last]
theorem push_len (C : List Q4) (x : Q4) : (pushN C x).length ≤ C.length + 1 := by unfold pushN; split <;> simp
theorem cmpct_len (L : List Q4) : ∀ k, (cmpct (L.take k)).length ≤ k
  | 0 => by simp [cmpct]
  | k + 1 => by
    cases h : L[k]? with
    | none =>
      have : L.take (k + 1) = L.take k := by
        have := List.getElem?_eq_none_iff.1 h
        rw [List.take_of_length_le (by omega), List.take_of_length_le (by omega)]
      rw [this]; exact Nat.le_succ_of_le (cmpct_len L k)
    | some p =>
      rw [cmpct_take L k p h]
      exact Nat.le_trans (push_len _ _) (Nat.succ_le_succ (cmpct_len L k))
theorem push_mem (C : List Q4) (x y : Q4) : y ∈ pushN C x ↔ y ∈ C ∨ y = x := by
  unfold pushN
  split
  · rename_i h
    constructor
    · exact .inl
    · rintro (h1 | rfl)
      · exact h1
      · exact List.mem_of_getLast? h
  · simp
theorem cmpct_mem (L : List Q4) (y : Q4) : ∀ k, y ∈ cmpct (L.take k) ↔ y ∈ L.take k
  | 0 => by simp [cmpct]
  | k + 1 => by
    cases h : L[k]? with
    | none =>
      have : L.take (k + 1) = L.take k := by
        have := List.getElem?_eq_none_iff.1 h
        rw [List.take_of_length_le (by omega), List.take_of_length_le (by omega)]
      rw [this]; exact cmpct_mem L y k
    | some p =>
      rw [cmpct_take L k p h, push_mem, cmpct_mem L y k, take_snocQ L k p h]
      simp
theorem cmpct_strict (L : List Q4) (hs : ∀ (i j : Nat) (p q : Q4), i < j → L[i]? = some p → L[j]? = some q → cf p q ≤ 0) : ∀ k, (cmpct (L.take k)).Pairwise (fun p q => cf p q < 0)
  | 0 => by simp [cmpct]
  | k + 1 => by
    have ih := cmpct_strict L hs k
    cases h : L[k]? with
    | none =>
      have : L.take (k + 1) = L.take k := by
        have := List.getElem?_eq_none_iff.1 h
        rw [List.take_of_length_le (by omega), List.take_of_length_le (by omega)]
      rw [this]; exact ih
    | some p =>
      rw [cmpct_take L k p h]
      unfold pushN
      split
      · exact ih
      · rename_i hne
        refine List.pairwise_append.2 ⟨ih, by simp, fun a ha b hb => ?_⟩
        obtain rfl : b = p := by simpa using hb
        obtain ⟨i, hi⟩ := List.mem_iff_getElem?.1 ((cmpct_mem L a k).1 ha)
        rw [List.getElem?_take] at hi
        split at hi
        · rename_i hik
          have h1 := hs i k a b hik hi h
          have h2 : cf a b ≠ 0 := fun e => by
            have e1 := (cf_to.zero a b).1 e
            subst e1
            apply hne
            obtain ⟨j, rfl⟩ : ∃ j, k = j + 1 := ⟨k - 1, by omega⟩
            obtain ⟨q, hq⟩ : ∃ q, L[j]? = some q := ⟨L[j]'(by have := (List.getElem?_eq_some_iff.1 h).1; omega), List.getElem?_eq_getElem _⟩
            rw [cmpct_last L j q hq]
            have h3 := hs j (j + 1) q a (by omega) hq h
            by_cases e2 : i = j
            · subst e2; rw [hi] at hq; exact hq.symm
            · have h4 := hs i j a q (by omega) hi hq
              have := cf_to.anti a q
              rw [(cf_to.zero a q).1 (by omega)]
          omega
        · cases hi
theorem cmpct_ge (L : List Q4) (h : L ≠ []) : 1 ≤ (cmpct (L.take L.length)).length := by
  obtain ⟨x, hx⟩ := List.exists_mem_of_ne_nil L h
  have := (cmpct_mem L x L.length).2 (by rwa [List.take_length])
  exact List.length_pos_of_mem this
theorem cmpct_self (L : List Q4) (k : Nat) (h : cmpct (L.take k) = L.take k) (p q : Q4) (hk : L[k]? = some p) (hp : L[k - 1]? = some q) (h0 : 0 < k) (hne : p ≠ q) : cmpct (L.take (k + 1)) = L.take (k + 1) := by
  rw [cmpct_take L k p hk, h, take_snocQ L k p hk]
  unfold pushN
  rw [if_neg]
  intro e
  obtain ⟨j, rfl⟩ : ∃ j, k = j + 1 := ⟨k - 1, by omega⟩
  have hp' : L[j]? = some q := hp
  rw [take_snocQ L j q hp'] at e
  simp at e
  exact hne e.symm
section
variable {P : Program}
/-- clear of a part of a row that is known whole. -/
theorem run_clear_row (w : World) (t ty e : TypeId) (z : Value) (g o n c : Nat) (cur : Array Value) (T : TypeId) (hu : P.underlying t = some (.slice e)) (hz : (zeroValue e).run P w = .ok z w) (hn : 0 < n)
    (hg : w.heap[g]? = some (.cells cur T (0, 0))) (hfit : o + (Builtin.zeroCells z.cells n).size ≤ cur.size) (h1 : ∀ v ∈ (Builtin.zeroCells z.cells n).toList, v.oneCell' = true) :
    (Builtin.clear_ #[t] ty #[.slice (some ⟨g, o, none⟩) n c]).run P w = .ok (.tuple #[]) (w.setRow g (cur.toList.take o ++ (Builtin.zeroCells z.cells n).toList ++ cur.toList.drop (o + (Builtin.zeroCells z.cells n).size)).toArray) := by
  have hst := run_storeCells_at P g o T (Builtin.zeroCells z.cells n).toList 0 cur w hg (by simpa using hfit) h1
  obtain ⟨m, rfl⟩ : ∃ m, n = m + 1 := ⟨n - 1, by omega⟩
  simp only [Nat.add_zero] at hst
  simp [Builtin.clear_, run_underlying hu, hz, hst]
end
end Sc
end Go.Proofs.YtppbejebmlcloaaDoor
