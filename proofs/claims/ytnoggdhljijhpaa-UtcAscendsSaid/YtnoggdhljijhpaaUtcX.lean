/- Texts of times ascend; tables that go on. -/
import Derived.Test.YtnoggdhljijhpaaUtcT
set_option linter.unusedVariables false
set_option linter.unusedSimpArgs false
namespace Go.Proofs.Ytnoggdhljijhpaa
namespace Utc
theorem bl_app : ∀ (x x' y y' : List UInt8), x.length = x'.length → Op.bytesLess x x' = true → Op.bytesLess (x ++ y) (x' ++ y') = true
  | [], [], y, y', _, h => by cases h
  | [], _ :: _, y, y', h, _ => by simp at h
  | _ :: _, [], y, y', h, _ => by simp at h
  | a :: x, b :: x', y, y', hl, h => by
    have ih := bl_app x x' y y' (by simpa using hl)
    simp only [List.cons_append, Op.bytesLess] at h ⊢
    cases hc : decide (a < b) with
    | true => simp [hc]
    | false =>
      simp only [hc, Bool.false_or, Bool.and_eq_true] at h ⊢
      exact ⟨h.1, ih h.2⟩
theorem bl_same : ∀ (x y y' : List UInt8), Op.bytesLess y y' = true → Op.bytesLess (x ++ y) (x ++ y') = true
  | [], _, _, h => h
  | a :: x, y, y', h => by
    have ih := bl_same x y y' h
    simp only [List.cons_append, Op.bytesLess, ih]
    simp
theorem dgc_nat (n k : Nat) : (dgc n k).toNat = 48 + n / 10 ^ k % 10 := by
  unfold dgc
  rw [UInt8.toNat_ofNat']
  omega
theorem pc_lt : ∀ (k n m : Nat), n % 10 ^ k < m % 10 ^ k → Op.bytesLess (pc k n) (pc k m) = true
  | 0, n, m, h => by simp [Nat.mod_one] at h
  | k + 1, n, m, h => by
    rw [Nat.mod_pow_succ, Nat.mod_pow_succ] at h
    have p0 : 0 < 10 ^ k := Nat.pow_pos (by decide)
    have a9 : n % 10 ^ k < 10 ^ k := Nat.mod_lt _ p0
    have b9 : m % 10 ^ k < 10 ^ k := Nat.mod_lt _ p0
    have ih := pc_lt k n m
    have d1 := dgc_nat n k
    have d2 := dgc_nat m k
    show (decide (dgc n k < dgc m k) || (dgc n k == dgc m k && Op.bytesLess (pc k n) (pc k m))) = true
    rcases Nat.lt_trichotomy (n / 10 ^ k % 10) (m / 10 ^ k % 10) with hc | hc | hc
    · have : dgc n k < dgc m k := by
        rw [UInt8.lt_iff_toNat_lt, d1, d2]; omega
      simp [this]
    · have e : dgc n k = dgc m k := by unfold dgc; rw [hc]
      rw [hc] at h
      rw [ih (by omega), e]
      simp
    · exfalso
      have : 10 ^ k * (m / 10 ^ k % 10 + 1) ≤ 10 ^ k * (n / 10 ^ k % 10) := Nat.mul_le_mul_left _ hc
      rw [Nat.mul_add] at this
      omega
/-- The order of the numbers of civil times. -/
def Lt7 (y m d h i s u y' m' d' h' i' s' u' : Nat) : Prop :=
  y < y' ∨ y = y' ∧ (m < m' ∨ m = m' ∧ (d < d' ∨ d = d' ∧ (h < h' ∨ h = h' ∧ (i < i' ∨ i = i' ∧ (s < s' ∨ s = s' ∧ u < u')))))
theorem tx_lt {y m d h i s u y' m' d' h' i' s' u' : Nat} (y9 : y' ≤ 9999) (m9 : m' ≤ 99) (d9 : d' ≤ 99) (h9 : h' ≤ 99) (i9 : i' ≤ 99) (s9 : s' ≤ 99) (u9 : u' ≤ 999999)
    (hl : Lt7 y m d h i s u y' m' d' h' i' s' u') : Op.bytesLess (tx y m d h i s u) (tx y' m' d' h' i' s' u') = true := by
  have L : ∀ k n m : Nat, n < m → m < 10 ^ k → Op.bytesLess (pc k n) (pc k m) = true := fun k n m a b => pc_lt k n m (by rw [Nat.mod_eq_of_lt (Nat.lt_trans a b), Nat.mod_eq_of_lt b]; exact a)
  have E : ∀ k n m : Nat, (pc k n).length = (pc k m).length := fun k n m => by rw [pc_len, pc_len]
  unfold tx
  simp only [List.append_assoc]
  rcases hl with hl | ⟨rfl, hl | ⟨rfl, hl | ⟨rfl, hl | ⟨rfl, hl | ⟨rfl, hl | ⟨rfl, hl⟩⟩⟩⟩⟩⟩
  · exact bl_app _ _ _ _ (E _ _ _) (L 4 _ _ hl (by omega))
  · exact bl_same _ _ _ (bl_same _ _ _ (bl_app _ _ _ _ (E _ _ _) (L 2 _ _ hl (by omega))))
  · exact bl_same _ _ _ (bl_same _ _ _ (bl_same _ _ _ (bl_same _ _ _ (bl_app _ _ _ _ (E _ _ _) (L 2 _ _ hl (by omega))))))
  · exact bl_same _ _ _ (bl_same _ _ _ (bl_same _ _ _ (bl_same _ _ _ (bl_same _ _ _ (bl_same _ _ _ (bl_app _ _ _ _ (E _ _ _) (L 2 _ _ hl (by omega))))))))
  · exact bl_same _ _ _ (bl_same _ _ _ (bl_same _ _ _ (bl_same _ _ _ (bl_same _ _ _ (bl_same _ _ _ (bl_same _ _ _ (bl_same _ _ _ (bl_app _ _ _ _ (E _ _ _) (L 2 _ _ hl (by omega))))))))))
  · exact bl_same _ _ _ (bl_same _ _ _ (bl_same _ _ _ (bl_same _ _ _ (bl_same _ _ _ (bl_same _ _ _ (bl_same _ _ _ (bl_same _ _ _ (bl_same _ _ _ (bl_same _ _ _ (bl_app _ _ _ _ (E _ _ _) (L 2 _ _ hl (by omega))))))))))))
  · exact bl_same _ _ _ (bl_same _ _ _ (bl_same _ _ _ (bl_same _ _ _ (bl_same _ _ _ (bl_same _ _ _ (bl_same _ _ _ (bl_same _ _ _ (bl_same _ _ _ (bl_same _ _ _ (bl_same _ _ _ (bl_same _ _ _ (bl_app _ _ _ _ (E _ _ _) (L 6 _ _ hl (by omega))))))))))))))
/-- The civil second ascends with the second. -/
theorem cb_lt {L : List Int} (h : VT L) {s s' : Int} (hs : s < s') : cb L s < cb L s' ∨ (cb L s = cb L s' ∧ isL L s = false ∧ isL L s' = true) := by
  have a1 := off_le L s
  have a2 := off_le L s'
  have mono : off L s ≤ off L s' := by
    refine Nat.not_lt.1 fun hc => ?_
    have b1 := off_below L s _ hc
    have b2 := off_at L s' (by omega)
    omega
  have l1 : isL L s = true → off L s < L.length ∧ L.getD (off L s) 0 = s := fun hi => by unfold isL at hi; exact of_decide_eq_true hi
  have l2 : isL L s' = true → off L s' < L.length ∧ L.getD (off L s') 0 = s' := fun hi => by unfold isL at hi; exact of_decide_eq_true hi
  have n1 : isL L s = false → off L s < L.length → L.getD (off L s) 0 ≠ s := fun hi hn he => by unfold isL at hi; rw [decide_eq_true ⟨hn, he⟩] at hi; cases hi
  have c1 : cb L s = if isL L s then s - off L s - 1 else s - off L s := rfl
  have c2 : cb L s' = if isL L s' then s' - off L s' - 1 else s' - off L s' := rfl
  by_cases ho : off L s = off L s'
  · have e1 : isL L s = false := by
      cases hi : isL L s with
      | false => rfl
      | true =>
        obtain ⟨h1, h2⟩ := l1 hi
        have := off_at L s' (by omega)
        rw [← ho] at this
        omega
    rw [e1] at c1
    simp at c1
    cases h2 : isL L s' with
    | true =>
      rw [h2] at c2; simp at c2
      by_cases he : cb L s = cb L s'
      · exact .inr ⟨he, e1, rfl⟩
      · left; omega
    | false => rw [h2] at c2; simp at c2; left; omega
  · have hlt : off L s < off L s' := by omega
    have b1 := off_below L s' (off L s' - 1) (by omega)
    have b2 := off_at L s (by omega)
    have b3 := h.le (i := off L s) (j := off L s' - 1) (by omega) (by omega)
    have b4 : isL L s' = true → L.getD (off L s' - 1) 0 - ((off L s' - 1 : Nat) : Int) + 86400 ≤ L.getD (off L s') 0 - (off L s' : Int) := fun hi => h.asc _ _ (by omega) (l2 hi).1
    left
    cases hi : isL L s with
    | true =>
      rw [hi] at c1; simp at c1
      cases h2 : isL L s' with
      | true => rw [h2] at c2; simp at c2; have := b4 h2; have := (l2 h2).2; omega
      | false => rw [h2] at c2; simp at c2; omega
    | false =>
      rw [hi] at c1; simp at c1
      have := n1 hi (by omega)
      cases h2 : isL L s' with
      | true => rw [h2] at c2; simp at c2; have := b4 h2; have := (l2 h2).2; omega
      | false => rw [h2] at c2; simp at c2; omega
theorem off_mono {L : List Int} {s s' : Int} (h : s ≤ s') : off L s ≤ off L s' := by
  have a1 := off_le L s
  refine Nat.not_lt.1 fun hc => ?_
  have b1 := off_below L s _ hc
  have b2 := off_at L s' (by omega)
  omega
theorem date_lt {a b : Int} (h0 : 0 ≤ a) (h : a < b) (h9 : b ≤ 120894) : dY a < dY b ∨ dY a = dY b ∧ (dM a < dM b ∨ dM a = dM b ∧ dD a < dD b) := by
  have va := vd_date a h0 (by omega)
  have vb := vd_date b (by omega) h9
  have ea := (date_ok a h0 (by omega)).2.2.2.2.2.2
  have eb := (date_ok b (by omega) h9).2.2.2.2.2.2
  rcases Int.lt_trichotomy (dY a) (dY b) with h1 | h1 | h1
  · exact .inl h1
  · refine .inr ⟨h1, ?_⟩
    rcases Int.lt_trichotomy (dM a) (dM b) with h2 | h2 | h2
    · exact .inl h2
    · refine .inr ⟨h2, ?_⟩
      refine Int.not_le.1 fun hc => ?_
      by_cases he : dD a = dD b
      · rw [← h1, ← h2, ← he] at eb; omega
      · have := dn_lt vb va (.inr ⟨h1.symm, .inr ⟨h2.symm, by omega⟩⟩); omega
    · have := dn_lt vb va (.inr ⟨h1.symm, .inl h2⟩); omega
  · have := dn_lt vb va (.inl h1); omega
/-- **Texts of times ascend like the times.** -/
theorem fm_lt {L : List Int} (hv : VT L) {a b : Int} (h0 : 0 ≤ a) (h : a < b) (h9 : b ≤ 9007199254740992) : Op.bytesLess (fm L a) (fm L b) = true := by
  obtain ⟨s, hs⟩ : ∃ s, s = a / 1000000 := ⟨_, rfl⟩
  obtain ⟨s', hs'⟩ : ∃ s', s' = b / 1000000 := ⟨_, rfl⟩
  obtain ⟨c0, c9, c5, _, _⟩ := cb_in hv s (by omega) (by omega)
  obtain ⟨e0, e9, e5, _, _⟩ := cb_in hv s' (by omega) (by omega)
  have cs1 : cs L s = if isL L s then 60 else cb L s % 86400 % 60 := rfl
  have cs2 : cs L s' = if isL L s' then 60 else cb L s' % 86400 % 60 := rfl
  have k1 : 0 ≤ cs L s ∧ cs L s ≤ 60 := by rw [cs1]; split <;> omega
  have k2 : 0 ≤ cs L s' ∧ cs L s' ≤ 60 := by rw [cs2]; split <;> omega
  obtain ⟨y0, y9, m1, m2, d1, d2, _⟩ := date_ok (cb L s / 86400) (by omega) (by omega)
  obtain ⟨y0', y9', m1', m2', d1', d2', _⟩ := date_ok (cb L s' / 86400) (by omega) (by omega)
  have d3 := (dim_in (dY (cb L s / 86400)) (dM (cb L s / 86400))).2
  have d3' := (dim_in (dY (cb L s' / 86400)) (dM (cb L s' / 86400))).2
  unfold fm
  rw [← hs, ← hs']
  refine tx_lt (by omega) (by omega) (by omega) (by omega) (by omega) (by omega) (by omega) ?_
  unfold Lt7
  by_cases hss : s = s'
  · subst hss
    refine .inr ⟨rfl, .inr ⟨rfl, .inr ⟨rfl, .inr ⟨rfl, .inr ⟨rfl, .inr ⟨rfl, by omega⟩⟩⟩⟩⟩⟩
  · rcases cb_lt hv (show s < s' by omega) with hc | ⟨hc, i1, i2⟩
    · by_cases hq : cb L s / 86400 = cb L s' / 86400
      · rw [← hq]
        refine .inr ⟨rfl, .inr ⟨rfl, .inr ⟨rfl, ?_⟩⟩⟩
        have n1 : isL L s = false := by
          cases hi : isL L s with
          | false => rfl
          | true => have := c5 hi; omega
        rw [n1] at cs1
        simp at cs1
        have g2 : cb L s' % 86400 % 60 ≤ cs L s' := by rw [cs2]; split <;> omega
        omega
      · have := date_lt (a := cb L s / 86400) (b := cb L s' / 86400) (by omega) (by omega) (by omega)
        omega
    · rw [← hc]
      refine .inr ⟨rfl, .inr ⟨rfl, .inr ⟨rfl, .inr ⟨rfl, .inr ⟨rfl, .inl ?_⟩⟩⟩⟩⟩
      rw [i1] at cs1
      rw [i2] at cs2
      simp at cs1 cs2
      omega
theorem take_get {L : List Int} {k j : Nat} (h : j < k) : (L.take k).getD j 0 = L.getD j 0 := by
  rw [List.getD_eq_getElem?_getD, List.getElem?_take, if_pos h, ← List.getD_eq_getElem?_getD]
theorem vt_take {L : List Int} (h : VT L) (k : Nat) (hk : k ≤ L.length) : VT (L.take k) := by
  have hl : (L.take k).length = k := by rw [List.length_take]; omega
  refine ⟨by rw [hl]; have := h.len; omega, fun i hi => ?_, fun i j hij hj => ?_⟩
  · rw [hl] at hi
    rw [take_get hi]; exact h.val i (by omega)
  · rw [hl] at hj
    rw [take_get hj, take_get (by omega)]; exact h.asc i j hij (by omega)
/-- Ahead of the next leap second a shorter table says the same. -/
theorem cut_same {L : List Int} (h : VT L) (k : Nat) (hk : k < L.length) (s : Int) (hs : s < L.getD k 0) : off (L.take k) s = off L s ∧ isL (L.take k) s = isL L s ∧ cb (L.take k) s = cb L s ∧ cs (L.take k) s = cs L s := by
  have hl : (L.take k).length = k := by rw [List.length_take]; omega
  have ok : off L s ≤ k := by
    refine Nat.not_lt.1 fun hc => ?_
    have := off_below L s k hc
    omega
  have e1 : off (L.take k) s = off L s := by
    refine off_is s (off L s) (by omega) (fun j hj => ?_) (fun hj => ?_)
    · rw [take_get (by omega)]; exact off_below L s j hj
    · rw [hl] at hj; rw [take_get hj]; exact off_at L s (by omega)
  have e2 : isL (L.take k) s = isL L s := by
    unfold isL
    rw [e1, hl]
    by_cases hc : off L s < k
    · rw [take_get hc]; simp [hc, show off L s < L.length by omega]
    · have he : off L s = k := by omega
      have : L.getD (off L s) 0 ≠ s := by rw [he]; omega
      rw [decide_eq_false (by omega), decide_eq_false (by rintro ⟨_, h2⟩; exact this h2)]
  have e3 : cb (L.take k) s = cb L s := by unfold cb; rw [e1, e2]
  exact ⟨e1, e2, e3, by unfold cs; rw [e2, e3]⟩
/-- Behind it, so many seconds earlier. -/
theorem cut_late {L : List Int} (h : VT L) (k : Nat) (hk : k < L.length) (s : Int) (hs : L.getD k 0 ≤ s) : off (L.take k) s = k ∧ k ≤ off L s ∧
    (isL L s = false → off (L.take k) (s - (off L s - k : Nat)) = k ∧ cb (L.take k) (s - (off L s - k : Nat)) = cb L s ∧ cs (L.take k) (s - (off L s - k : Nat)) = cs L s) := by
  have hl : (L.take k).length = k := by rw [List.length_take]; omega
  have at_ : ∀ t : Int, (k = 0 ∨ L.getD (k - 1) 0 < t) → off (L.take k) t = k := fun t ht => by
    refine off_is t k (by omega) (fun j hj => ?_) (fun hj => by omega)
    rw [take_get hj]
    have hk0 : k ≠ 0 := by omega
    have h1 : L.getD (k - 1) 0 < t := by rcases ht with e | e; exact absurd e hk0; exact e
    have := h.le (i := j) (j := k - 1) (by omega) (by omega)
    omega
  have lt1 : k = 0 ∨ L.getD (k - 1) 0 < s := by
    by_cases e : k = 0
    · exact .inl e
    · right; have := h.lt (i := k - 1) (j := k) (by omega) hk; omega
  have ge : k ≤ off L s := by
    refine Nat.not_lt.1 fun hc => ?_
    have a1 := off_at L s (by omega)
    have a2 := h.lt (i := off L s) (j := k) hc hk
    omega
  refine ⟨at_ s lt1, ge, fun hi => ?_⟩
  have lt2 : k = 0 ∨ L.getD (k - 1) 0 < s - (off L s - k : Nat) := by
    by_cases e : k = 0
    · exact .inl e
    · right
      have a1 := off_below L s (off L s - 1) (by omega)
      have a2 := h.le (i := k - 1) (j := off L s - 1) (by omega) (by have := off_le L s; omega)
      omega
  have e1 := at_ _ lt2
  have e2 : isL (L.take k) (s - (off L s - k : Nat)) = false := by
    unfold isL
    rw [e1, hl]
    exact decide_eq_false (by omega)
  have e3 : cb (L.take k) (s - (off L s - k : Nat)) = cb L s := by
    unfold cb
    rw [e1, e2, hi]
    simp; omega
  exact ⟨e1, e3, by unfold cs; rw [e2, hi, e3]⟩
/-- At a leap second, ahead of it, behind it. -/
theorem at_leap {L : List Int} (h : VT L) (k : Nat) (hk : k < L.length) :
    off L (L.getD k 0) = k ∧ isL L (L.getD k 0) = true ∧ off L (L.getD k 0 + 1) = k + 1 ∧ cs L (L.getD k 0 - 1) = 59 ∧ cb L (L.getD k 0 - 1) = cb L (L.getD k 0) ∧ cs L (L.getD k 0 + 1) = 0 ∧ cb L (L.getD k 0 + 1) % 86400 = 0 := by
  obtain ⟨v1, v2, v3⟩ := h.val k hk
  have below : ∀ j, j < k → L.getD j 0 < L.getD k 0 - 1 := fun j hj => by have := h.lt hj hk; omega
  have o1 : off L (L.getD k 0) = k := off_is _ k (by omega) (fun j hj => by have := below j hj; omega) (fun _ => Int.le_refl _)
  have o2 : off L (L.getD k 0 + 1) = k + 1 := off_is _ (k + 1) (by omega) (fun j hj => by
    by_cases e : j = k
    · subst e; omega
    · have := below j (by omega); omega) (fun hn => by have := h.lt (i := k) (j := k + 1) (by omega) hn; omega)
  have o3 : off L (L.getD k 0 - 1) = k := off_is _ k (by omega) (fun j hj => below j hj) (fun _ => by omega)
  have i1 : isL L (L.getD k 0) = true := by unfold isL; rw [o1]; simp [hk]
  have i2 : isL L (L.getD k 0 + 1) = false := by
    unfold isL; rw [o2]
    exact decide_eq_false (fun ⟨a, b⟩ => by have := h.lt (i := k) (j := k + 1) (by omega) a; omega)
  have i3 : isL L (L.getD k 0 - 1) = false := by
    unfold isL; rw [o3]
    exact decide_eq_false (fun ⟨a, b⟩ => by omega)
  have c1 : cb L (L.getD k 0) = L.getD k 0 - k - 1 := by unfold cb; rw [o1, i1]; rfl
  have c2 : cb L (L.getD k 0 + 1) = L.getD k 0 - k := by unfold cb; rw [o2, i2]; simp; omega
  have c3 : cb L (L.getD k 0 - 1) = L.getD k 0 - k - 1 := by unfold cb; rw [o3, i3]; simp; omega
  refine ⟨o1, i1, o2, ?_, by rw [c1, c3], ?_, by rw [c2]; omega⟩
  · have e : (L.getD k 0 - k - 1) % 86400 = 86399 := by omega
    unfold cs; rw [i3, c3, e]; rfl
  · unfold cs; rw [i2, c2, v2]; rfl
end Utc
end Go.Proofs.Ytnoggdhljijhpaa
