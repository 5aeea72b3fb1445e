/- What Run's triggers are: where they begin and end, and their peaks. -/
import Derived.Test.YtbmcmiggifknfaaDoorDetN
set_option linter.unusedVariables false
namespace Go.Proofs.YtbmcmiggifknfaaDoor
namespace Det
/-- The greatest of c values from a on, and 0. -/
def pkf (V : Nat → Int) (a : Nat) : Nat → Int
  | 0 => 0
  | c + 1 => max (pkf V a c) (V (a + c))
/-- What is open when k samples are seen is in the list at the end. -/
def Aft (n k : Nat) (l e : List Tr) (o : Tr) : Prop :=
  ∃ rest, l = e ++ rest ∧ (0 ≤ o.on → ∃ t r, rest = t :: r ∧ t.on = o.on ∧ o.pk ≤ t.pk ∧ (t.off < 0 ∨ (k : Int) ≤ t.off))
theorem aft_step (d : Dt) (V : Nat → Int) (n k : Nat) (l e : List Tr) (o : Tr) (ho : 0 ≤ o.on → o.off = -1) (h : Aft n (k + 1) l (step d V k e o).1 (step d V k e o).2) : Aft n k l e o := by
  unfold step at h
  split at h
  · obtain ⟨rest, h1, h2⟩ := h
    exact ⟨rest, h1, fun h => by obtain ⟨t, r, a, b, c, d⟩ := h2 h; exact ⟨t, r, a, b, c, by omega⟩⟩
  split at h
  · rename_i hn
    split at h
    · obtain ⟨rest, h1, h2⟩ := h
      exact ⟨rest, h1, fun h => absurd hn (by omega)⟩
    · obtain ⟨rest, h1, h2⟩ := h
      exact ⟨rest, h1, fun h => absurd hn (by omega)⟩
  split at h
  · obtain ⟨rest, h1, h2⟩ := h
    refine ⟨rest, h1, fun h => ?_⟩
    obtain ⟨t, r, a, b, c, d⟩ := h2 h
    exact ⟨t, r, a, b, by simp only at c; omega, by omega⟩
  · obtain ⟨rest, h1, h2⟩ := h
    refine ⟨⟨o.on, k, o.pk⟩ :: rest, by rw [h1]; simp, fun h => ⟨_, rest, rfl, rfl, Int.le_refl _, .inr (Int.le_refl _)⟩⟩
/-- What is known of the triggers behind k samples. -/
structure Trs (d : Dt) (V : Nat → Int) (k : Nat) (e : List Tr) (o : Tr) : Prop where
  each : ∀ (i : Nat) (t : Tr), e[i]? = some t → (d.L : Int) - 1 ≤ t.on ∧ 0 ≤ t.on ∧ t.on < t.off ∧ t.off ≤ k ∧ t.pk = pkf V t.on.toNat (t.off - t.on).toNat
  next : ∀ (i : Nat) (t u : Tr), e[i]? = some t → e[i + 1]? = some u → t.off ≤ u.on
  shut : o.on < 0 → o = ⟨-1, 0, 0⟩
  opn : 0 ≤ o.on → (d.L : Int) - 1 ≤ o.on ∧ o.on < k ∧ o.off = -1 ∧ o.pk = pkf V o.on.toNat (k - o.on).toNat ∧ ∀ t ∈ e, t.off ≤ o.on
theorem trs_any (d : Dt) (V : Nat → Int) (hL : 1 ≤ d.L) (hV : ∀ j, 0 ≤ V j) : ∀ k, Trs d V k (scn d V k).1 (scn d V k).2 := by
  intro k
  induction k with
  | zero => exact ⟨fun i t h => by simp [scn] at h, fun i t u h => by simp [scn] at h, fun _ => rfl, fun h => absurd h (by simp [scn])⟩
  | succ k ih =>
    rw [show scn d V (k + 1) = step d V k (scn d V k).1 (scn d V k).2 from rfl]
    generalize (scn d V k).1 = e at *
    generalize (scn d V k).2 = o at *
    obtain ⟨h1, h2, h3, h4⟩ := ih
    have h1' : ∀ (i : Nat) (t : Tr), e[i]? = some t → (d.L : Int) - 1 ≤ t.on ∧ 0 ≤ t.on ∧ t.on < t.off ∧ t.off ≤ ((k + 1 : Nat) : Int) ∧ t.pk = pkf V t.on.toNat (t.off - t.on).toNat := fun i t h => by
      obtain ⟨a, b, c, d', e'⟩ := h1 i t h; exact ⟨a, b, c, by omega, e'⟩
    unfold step
    split
    · rename_i hk
      refine ⟨h1', h2, h3, fun h => ?_⟩
      obtain ⟨a, b, _⟩ := h4 h
      omega
    rename_i hk
    split
    · rename_i hn
      split
      · refine ⟨h1', h2, fun h => ?_, fun _ => ⟨by simp only; omega, by simp only; omega, rfl, ?_, fun t ht => ?_⟩⟩
        · simp only at h; omega
        · show V k = pkf V ((k : Int)).toNat ((((k + 1 : Nat) : Int)) - (k : Int)).toNat
          rw [show ((((k + 1 : Nat) : Int)) - (k : Int)).toNat = 0 + 1 by omega, show ((k : Int)).toNat = k by omega]
          simp only [pkf]
          have := hV k
          rw [Nat.add_zero]
          omega
        · obtain ⟨i, hi, rfl⟩ := List.mem_iff_getElem.1 ht
          have := h1 i e[i] (by simp)
          simp only
          omega
      · exact ⟨h1', h2, h3, fun h => absurd hn (by simp only at h; omega)⟩
    rename_i hn
    obtain ⟨a, b, c, d', e'⟩ := h4 (by omega)
    split
    · refine ⟨h1', h2, fun h => absurd h (by simp only; omega), fun _ => ⟨a, by simp only; omega, c, ?_, e'⟩⟩
      show max o.pk (V k) = pkf V o.on.toNat (((k + 1 : Nat) : Int) - o.on).toNat
      rw [show (((k + 1 : Nat) : Int) - o.on).toNat = ((k : Int) - o.on).toNat + 1 by omega]
      simp only [pkf]
      rw [← d', show o.on.toNat + ((k : Int) - o.on).toNat = k by omega]
    · refine ⟨fun i t h => ?_, fun i t u ht hu => ?_, fun _ => rfl, fun h => absurd h (by simp)⟩
      · by_cases hi : i < e.length
        · rw [List.getElem?_append_left hi] at h; exact h1' i t h
        · rw [List.getElem?_append_right (by omega)] at h
          have hz : i - e.length = 0 := by
            by_cases hz : i - e.length = 0
            · exact hz
            · rw [List.getElem?_eq_none (by simp; omega)] at h; cases h
          rw [hz] at h
          simp at h
          subst h
          exact ⟨a, by simp only; omega, b, by simp only; omega, d'⟩
      · by_cases hi : i + 1 < e.length
        · rw [List.getElem?_append_left hi] at hu
          rw [List.getElem?_append_left (by omega)] at ht
          exact h2 i t u ht hu
        · have hz : i + 1 - e.length = 0 := by
            by_cases hz : i + 1 - e.length = 0
            · exact hz
            · rw [List.getElem?_eq_none (by simp; omega)] at hu; cases hu
          rw [List.getElem?_append_right (by omega), hz] at hu
          simp at hu
          subst hu
          rw [List.getElem?_append_left (by omega)] at ht
          exact e' t (List.mem_of_getElem? ht)
theorem runL_end (d : Dt) (V : Nat → Int) (n : Nat) : Aft n n (runL d V n) (scn d V n).1 (scn d V n).2 := by
  unfold runL
  refine ⟨_, rfl, fun h => ?_⟩
  rw [if_neg (by omega)]
  by_cases ho : (scn d V n).2.off < 0
  · exact ⟨_, [], rfl, rfl, Int.le_refl _, .inl ho⟩
  · exact ⟨_, [], rfl, rfl, Int.le_refl _, .inl (by
      exfalso
      exact ho (by
        have : ∀ k, 0 ≤ (scn d V k).2.on → (scn d V k).2.off < 0 := by
          intro k
          induction k with
          | zero => simp [scn]
          | succ k ih =>
            rw [show scn d V (k + 1) = step d V k (scn d V k).1 (scn d V k).2 from rfl]
            generalize (scn d V k).1 = e at *
            generalize (scn d V k).2 = o at *
            unfold step
            split
            · exact ih
            split
            · split
              · intro _; show (-1 : Int) < 0; decide
              · exact ih
            split
            · exact ih
            · intro h; exact absurd h (by simp)
        exact this n h))⟩
theorem aft_any (d : Dt) (V : Nat → Int) (hL : 1 ≤ d.L) (hV : ∀ j, 0 ≤ V j) (n : Nat) : ∀ m k, k + m = n → Aft n k (runL d V n) (scn d V k).1 (scn d V k).2 := by
  intro m
  induction m with
  | zero => intro k hk; obtain rfl : k = n := by omega
            exact runL_end d V k
  | succ m ih =>
    intro k hk
    exact aft_step d V n k _ _ _ (fun h => ((trs_any d V hL hV k).opn h).2.2.1) (ih (k + 1) (by omega))
/-- The list of all triggers. -/
theorem runL_each (d : Dt) (V : Nat → Int) (hL : 1 ≤ d.L) (hV : ∀ j, 0 ≤ V j) (n : Nat) (i : Nat) (t : Tr) (h : (runL d V n)[i]? = some t) :
    (d.L : Int) - 1 ≤ t.on ∧ 0 ≤ t.on ∧ (∃ z : Nat, (z : Int) = (if t.off < 0 then (n : Int) else t.off) ∧ t.on < z ∧ z ≤ n ∧ t.pk = pkf V t.on.toNat (z - t.on.toNat)) ∧ (t.off < 0 → i + 1 = (runL d V n).length) ∧
      ∀ u, i ≠ 0 → (runL d V n)[i - 1]? = some u → 0 ≤ u.off ∧ u.off ≤ t.on := by
  obtain ⟨h1, h2, h3, h4⟩ := trs_any d V hL hV n
  unfold runL at *
  generalize (scn d V n).1 = e at *
  generalize (scn d V n).2 = o at *
  by_cases ho : o.on < 0
  · rw [if_pos ho, List.append_nil] at *
    obtain ⟨a, b, c, d', e'⟩ := h1 i t h
    refine ⟨a, b, ⟨t.off.toNat, by rw [if_neg (by omega)]; omega, by omega, by omega, by rw [e']; congr 1; omega⟩, fun h => by omega, fun u hi hu => ?_⟩
    exact ⟨by have := h1 _ u hu; omega, h2 (i - 1) u t hu (by rw [show i - 1 + 1 = i by omega]; exact h)⟩
  · rw [if_neg ho] at *
    obtain ⟨a, b, c, d', e'⟩ := h4 (by omega)
    by_cases hi : i < e.length
    · rw [List.getElem?_append_left hi] at h
      obtain ⟨a, b, c, d', e'⟩ := h1 i t h
      refine ⟨a, b, ⟨t.off.toNat, by rw [if_neg (by omega)]; omega, by omega, by omega, by rw [e']; congr 1; omega⟩, fun h => by omega, fun u hi0 hu => ?_⟩
      rw [List.getElem?_append_left (by omega)] at hu
      exact ⟨by have := h1 _ u hu; omega, h2 (i - 1) u t hu (by rw [show i - 1 + 1 = i by omega]; exact h)⟩
    · have hz : i - e.length = 0 := by
        by_cases hz : i - e.length = 0
        · exact hz
        · rw [List.getElem?_eq_none (by simp; omega)] at h; cases h
      rw [List.getElem?_append_right (by omega), hz] at h
      simp at h
      subst h
      refine ⟨a, by omega, ⟨n, by rw [if_pos (by omega)], by omega, by omega, by rw [d']; congr 1; omega⟩, fun _ => by simp; omega, fun u hi0 hu => ?_⟩
      rw [List.getElem?_append_left (by omega)] at hu
      exact ⟨by have := h1 _ u hu; omega, e' u (List.mem_of_getElem? hu)⟩
end Det
end Go.Proofs.YtbmcmiggifknfaaDoor
