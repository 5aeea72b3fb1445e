/- Lists of triggers that can be read, nil or not; bounds of peaks; what flat samples give. -/
import Derived.Test.YtbmcmiggifknfaaDoorDetG
import Derived.Test.YtbmcmiggifknfaaDoorDetN
set_option linter.unusedVariables false
namespace Go.Proofs.YtbmcmiggifknfaaDoor
open Go.RowKit Dice
namespace Det
/-- A list of n triggers that can be read. -/
def TS (w : World) (v : Value) (n : Nat) (l : List Tr) : Prop := ∃ a c, v = .slice a n c ∧ n = l.length ∧ n ≤ c ∧ c ≤ maxLen ∧ (0 < n → ∃ g, a = some ⟨g, 0, none⟩ ∧ g < w.heap.size ∧ ∀ k t, l[k]? = some t → w.cell? ⟨g, k * 3, none⟩ = some (.int .i64 t.on) ∧ w.cell? ⟨g, k * 3 + 1, none⟩ = some (.int .i64 t.off) ∧ w.cell? ⟨g, k * 3 + 2, none⟩ = some (.int .i64 t.pk))
theorem ts_of {B : Nat} {w : World} {v : Value} {l : List Tr} (h : w.ownsRow B 32 3 v l.length (row l)) : TS w v l.length l := by
  by_cases h0 : 0 < l.length
  · obtain ⟨g, c, rfl, h1, h2, h3, h4⟩ := tri_read h h0
    exact ⟨_, c, rfl, rfl, h1, h2, fun _ => ⟨g, rfl, h3, h4⟩⟩
  · rcases h.2 with ⟨rfl, hn⟩ | ⟨g, cap, cur, rfl, _, hg, hc, hm, _, ht⟩
    · exact ⟨none, 0, by rw [hn], rfl, by omega, by unfold maxLen; omega, fun h => absurd h h0⟩
    · exact ⟨_, cap, rfl, rfl, hc, hm, fun h => absurd h h0⟩
theorem TS.below {w w' : World} {v : Value} {n : Nat} {l : List Tr} (h : TS w v n l) (hb : Below w.heap.size w w') : TS w' v n l := by
  obtain ⟨a, c, e, h0, h1, h2, h3⟩ := h
  refine ⟨a, c, e, h0, h1, h2, fun hn => ?_⟩
  obtain ⟨g, e', hlt, hc⟩ := h3 hn
  exact ⟨g, e', Nat.lt_of_lt_of_le hlt hb.size, fun k t hk => by
    rw [hb.cell (p := ⟨g, k * 3, none⟩) hlt, hb.cell (p := ⟨g, k * 3 + 1, none⟩) hlt, hb.cell (p := ⟨g, k * 3 + 2, none⟩) hlt]; exact hc k t hk⟩
theorem scn_pk (d : Dt) (V : Nat → Int) (m : Int) (n : Nat) (h0 : 0 ≤ m) (hV : ∀ j, j < n → 0 ≤ V j ∧ V j ≤ m) :
    ∀ k, k ≤ n → (∀ t ∈ (scn d V k).1, 0 ≤ t.pk ∧ t.pk ≤ m) ∧ 0 ≤ (scn d V k).2.pk ∧ (scn d V k).2.pk ≤ m := by
  intro k
  induction k with
  | zero => intro _; simp [scn]; omega
  | succ k ih =>
    intro hk
    have i := ih (by omega)
    have v := hV k (by omega)
    rw [show scn d V (k + 1) = step d V k (scn d V k).1 (scn d V k).2 from rfl]
    unfold step
    generalize (scn d V k).1 = e at *
    generalize (scn d V k).2 = o at *
    obtain ⟨i1, i2, i3⟩ := i
    split
    · exact ⟨i1, i2, i3⟩
    split
    · split
      · exact ⟨i1, v.1, v.2⟩
      · exact ⟨i1, i2, i3⟩
    split
    · refine ⟨i1, ?_, ?_⟩
      · show 0 ≤ max o.pk (V k); omega
      · show max o.pk (V k) ≤ m; omega
    · refine ⟨fun t ht => ?_, Int.le_refl 0, h0⟩
      rcases List.mem_append.1 ht with ht | ht
      · exact i1 t ht
      · obtain rfl := List.mem_singleton.1 ht; exact ⟨i2, i3⟩
theorem runL_pk (d : Dt) (V : Nat → Int) (m : Int) (n : Nat) (h0 : 0 ≤ m) (hV : ∀ j, j < n → 0 ≤ V j ∧ V j ≤ m) : ∀ t ∈ runL d V n, 0 ≤ t.pk ∧ t.pk ≤ m := by
  obtain ⟨h1, h2⟩ := scn_pk d V m n h0 hV n (Nat.le_refl n)
  intro t ht
  unfold runL at ht
  rcases List.mem_append.1 ht with ht | ht
  · exact h1 t ht
  · split at ht
    · cases ht
    · obtain rfl := List.mem_singleton.1 ht; exact h2
theorem runL_len (d : Dt) (V : Nat → Int) (n : Nat) : (runL d V n).length ≤ n + 1 := by
  have := scn_len d V n
  unfold runL
  rw [List.length_append]
  split <;> simp <;> omega
/-- Samples multiplied by k. -/
theorem run_times {d : Dt} {X Y : Nat → Int} {n : Nat} {k : Int} (hk : k ≠ 0) (h : ∀ j, j < n → Y j = X j * k) : runL d (ab Y) n = (runL d (ab X) n).map (mul (max k (-k))) := by
  rw [← run_mul d (ab X) (max k (-k)) (by omega) n]
  refine runL_congr d fun j hj => ?_
  show max (Y j) (-Y j) = max k (-k) * max (X j) (-X j)
  rw [h j hj]
  exact abs_mul _ _
theorem run_flat {d : Dt} {X : Nat → Int} {n : Nat} {m : Int} (hm : 0 ≤ m) (h : ∀ j : Nat, j < n → X j = m * (1 - 2 * ((j : Int) % 2))) : runL d (ab X) n = runL d (fun _ => m) n := by
  refine runL_congr d fun j hj => ?_
  show max (X j) (-X j) = m
  rw [h j hj]
  exact abs_flat m _ hm (by omega)
theorem run_none {d : Dt} {n : Nat} {m : Int} (hS : 1 ≤ d.S) (hL : d.S ≤ d.L) (hm : 0 ≤ m) (h : 100 < d.on ∨ m = 0 ∨ n < d.L) : runL d (fun _ => m) n = [] := by
  unfold runL
  have : scn d (fun _ => m) n = ([], ⟨-1, 0, 0⟩) := by
    rcases h with h | h | h
    · exact flat_none d m hS hL hm (.inl h) n
    · exact flat_none d m hS hL hm (.inr h) n
    · exact flat_short d _ n h
  rw [this]
  rfl
theorem run_one {d : Dt} {n : Nat} {m : Int} (hS : 1 ≤ d.S) (hL : d.S ≤ d.L) (hm : 0 < m) (h : d.on ≤ 100) (ho : d.off ≤ d.on) (hn : d.L ≤ n) : runL d (fun _ => m) n = [⟨(d.L : Int) - 1, -1, m⟩] := by
  unfold runL
  have := flat_one d m hS hL hm h ho (n - d.L)
  rw [show d.L + (n - d.L) = n by omega] at this
  rw [this]
  simp only [List.nil_append]
  rw [if_neg (show ¬ ((d.L : Int) - 1 < 0) by omega)]
end Det
end Go.Proofs.YtbmcmiggifknfaaDoor
