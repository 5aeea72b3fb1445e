/- trim. Rows of limbs. -/
import Derived.Test.YtaaeegjinblpiaaDoorNtxB
set_option linter.unusedVariables false
set_option linter.unusedSimpArgs false
namespace Go.Proofs.YtaaeegjinblpiaaDoor
open Go.RowKit Dice
namespace Nt
theorem tr_zeros : ∀ (M : List Int), (∀ x ∈ M, x = 0) → tr M = []
  | [], _ => rfl
  | x :: l, h => by
    simp only [tr]
    rw [if_pos ⟨h x (by simp), tr_zeros l fun y hy => h y (by simp [hy])⟩]
theorem tr_app : ∀ (L M : List Int), (∀ x ∈ M, x = 0) → tr (L ++ M) = tr L
  | [], M, h => tr_zeros M h
  | x :: l, M, h => by simp only [List.cons_append, tr, tr_app l M h]
theorem tr_self : ∀ (L : List Int), (∀ x, L.getLast? = some x → x ≠ 0) → tr L = L
  | [], _ => rfl
  | [x], h => by
    simp only [tr]
    rw [if_neg fun e => h x rfl e.1]
  | x :: y :: l, h => by
    have ih := tr_self (y :: l) fun z hz => h z (by rw [List.getLast?_cons_cons]; exact hz)
    rw [tr, ih, if_neg (by simp)]
theorem tr_end (Q : List Int) (k : Nat) (hk : k ≤ Q.length) (h : ∀ x ∈ Q.drop k, x = 0) (hl : k = 0 ∨ ∃ x, Q[k - 1]? = some x ∧ x ≠ 0) : tr Q = Q.take k := by
  have e : tr Q = tr (Q.take k) := by
    conv => lhs; rw [← List.take_append_drop k Q]
    exact tr_app _ _ h
  rw [e]
  apply tr_self
  intro x hx
  rcases hl with rfl | ⟨y, hy, hne⟩
  · simp at hx
  · rw [List.getLast?_eq_getElem?, List.length_take, Nat.min_eq_left hk, List.getElem?_take] at hx
    split at hx
    · rw [hy] at hx
      rw [← Option.some.inj hx]; exact hne
    · cases hx
theorem Nr.take {w : World} {a : Option Addr} {n c : Nat} {L : List Int} (h : Nr w a n c L) (k : Nat) (hk : k ≤ n) : Nr w a k c (L.take k) :=
  ⟨by rw [List.length_take, ← h.len]; omega, by have := h.nc; omega, by have := h.small; omega, fun h0 => by
    obtain ⟨g, e, hg, hc⟩ := h.at_ (by omega)
    refine ⟨g, e, hg, fun j x hx => hc j x ?_⟩
    rw [List.getElem?_take] at hx
    split at hx
    · exact hx
    · cases hx⟩
set_option maxHeartbeats 2000000 in
theorem trim_any {w : World} {a : Option Addr} {n c : Nat} {L : List Int} (h : Nr w a n c L) :
    Calls Tryd.prog 26 #[.slice a n c] w fun e w' => e = .returned (.slice a (tr L).length c) ∧ w' = w := by
  have hnc := h.nc
  have hl := Lib.hid h.len
  have hsm := h.small
  have H := Lib.hid h
  clear h
  go_enter Tryd.func26, Tryd.ntmps26
  go_wp2_with fail
  go_loop [0] (fun v => ∃ k : Nat, k ≤ n ∧ v = .slice a k c ∧ Hid (∀ x ∈ L.drop k, x = 0)) (fun v => match v with | .slice _ k _ => k | _ => 0)
  case atStart => exact ⟨n, Nat.le_refl _, rfl, Lib.hid (by rw [hl.out, List.drop_length]; intro x hx; cases hx)⟩
  case round =>
    obtain ⟨k, hk, rfl, hz⟩ := hrel
    by_cases h0 : k = 0
    · subst h0
      have ht := tr_end L 0 (by omega) hz.out (Or.inl rfl)
      have htl : (tr L).length = 0 := by rw [ht]; rfl
      clear hz ht
      go_wp2_with fail
      go_ret
      exact ⟨rfl, rfl⟩
    · obtain ⟨j, rfl⟩ : ∃ j, k = j + 1 := ⟨k - 1, by omega⟩
      obtain ⟨g, rfl, hg, hc⟩ := H.out.at_ (by omega)
      obtain ⟨d, hd⟩ : ∃ y, L[j]? = some y := ⟨L[j]'(by rw [← hl.out]; omega), List.getElem?_eq_getElem _⟩
      have c1 := hc _ _ hd
      obtain ⟨k, hkj⟩ : ∃ k, k = j + 1 := ⟨_, rfl⟩
      rw [← hkj]
      rw [← hkj] at hk hz
      have k0 : (0 : Int) < k := by omega
      have kj : (k : Int) - 1 = (j : Int) := by omega
      have jk : (j : Int) < k := by omega
      have jk' : (j : Int) ≤ k := by omega
      have jc : j ≤ c := by omega
      have jN : j ≤ k := by omega
      by_cases hd0 : d = 0
      · subst hd0
        have hz2 : Hid (∀ x ∈ L.drop j, x = 0) := Lib.hid (by
          intro x hx
          obtain ⟨hj, e⟩ := List.getElem?_eq_some_iff.1 hd
          rw [List.drop_eq_getElem_cons hj, e] at hx
          rcases List.mem_cons.1 hx with rfl | hx
          · rfl
          · exact hz.out x (by rw [hkj]; exact hx))
        replace hd := Lib.hid hd
        replace hkj := Lib.hid hkj
        clear hz hc
        go_wp2_with fail
        exact ⟨⟨j, by have := hkj.out; omega, rfl, hz2⟩, by show j < k; have := hkj.out; omega⟩
      · have ht := tr_end L k (by rw [← hl.out]; omega) hz.out (Or.inr ⟨d, by rw [hkj]; exact hd, hd0⟩)
        have htl : (tr L).length = k := by rw [ht, List.length_take, ← hl.out]; omega
        have dne : (d == 0) = false := beq_eq_false_iff_ne.2 hd0
        replace hd := Lib.hid hd
        replace hkj := Lib.hid hkj
        clear hz ht hc
        go_wp2_with fail
        go_ret
        exact ⟨rfl, rfl⟩
end Nt
end Go.Proofs.YtaaeegjinblpiaaDoor
