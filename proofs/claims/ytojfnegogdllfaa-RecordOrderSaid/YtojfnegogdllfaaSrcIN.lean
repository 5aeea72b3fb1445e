/- The order of identifiers; lists without repetitions: the mathematics. cmp.Compare of strings. -/
import Derived.Test.YtojfnegogdllfaaSrcA
import Derived.Lib.Strings
set_option linter.unusedVariables false
set_option linter.unusedSimpArgs false
namespace Go.Proofs.Ytojfnegogdllfaa
open Go.RowKit Dice
namespace Sc
abbrev Q4 := List UInt8 × List UInt8 × List UInt8 × List UInt8
structure TO {α : Type} (c : α → α → Int) : Prop where
  anti : ∀ x y, c y x = - c x y
  zero : ∀ x y, c x y = 0 ↔ x = y
  trans : ∀ x y z, c x y ≤ 0 → c y z ≤ 0 → c x z ≤ 0
theorem TO.lt {α : Type} {c : α → α → Int} (h : TO c) {x y z : α} (h1 : c x y < 0) (h2 : c y z ≤ 0) : c x z < 0 := by
  have h3 := h.trans x y z (by omega) h2
  have h4 : c x z ≠ 0 := fun e => by
    have := (h.zero x z).1 e
    subst this
    have := h.anti x y
    omega
  omega
def lexC {α β : Type} (c1 : α → α → Int) (c2 : β → β → Int) (p q : α × β) : Int := if c1 p.1 q.1 = 0 then c2 p.2 q.2 else c1 p.1 q.1
theorem TO.lex {α β : Type} {c1 : α → α → Int} {c2 : β → β → Int} (h1 : TO c1) (h2 : TO c2) : TO (lexC c1 c2) where
  anti x y := by
    unfold lexC
    have := h1.anti x.1 y.1
    have := h2.anti x.2 y.2
    split <;> split <;> omega
  zero x y := by
    obtain ⟨x1, x2⟩ := x
    obtain ⟨y1, y2⟩ := y
    unfold lexC
    simp only [Prod.mk.injEq]
    by_cases e : c1 x1 y1 = 0
    · rw [if_pos e, h2.zero, h1.zero] at *; simp [e]
    · rw [if_neg e]; have := mt (h1.zero x1 y1).2 e; simp [e, this]
  trans x y z := by
    obtain ⟨x1, x2⟩ := x
    obtain ⟨y1, y2⟩ := y
    obtain ⟨z1, z2⟩ := z
    unfold lexC
    simp only
    by_cases e1 : c1 x1 y1 = 0
    · have := (h1.zero _ _).1 e1
      subst this
      rw [if_pos e1]
      by_cases e2 : c1 x1 z1 = 0
      · rw [if_pos e2, if_pos e2]; exact h2.trans _ _ _
      · rw [if_neg e2, if_neg e2]; intro _ h; exact h
    · rw [if_neg e1]
      intro a b
      by_cases e2 : c1 y1 z1 = 0
      · have := (h1.zero _ _).1 e2
        subst this
        rw [if_neg e1]; exact a
      · rw [if_neg e2] at b
        have := h1.lt (x := x1) (y := y1) (z := z1) (by omega) b
        rw [if_neg (by omega)]; omega
def cS (x y : List UInt8) : Int := if x < y then -1 else if y < x then 1 else 0
theorem cS_to : TO cS where
  anti x y := by
    unfold cS
    by_cases h : x < y
    · have h' : ¬ y < x := fun hh => List.lt_irrefl _ (List.lt_trans h hh)
      simp [h, h']
    · by_cases h' : y < x
      · simp [h, h']
      · simp [h, h']
  zero x y := by
    unfold cS
    by_cases h : x < y
    · simp only [h, if_true]
      constructor
      · intro e; omega
      · intro e; subst e; exact absurd h (List.lt_irrefl x)
    · by_cases h' : y < x
      · simp only [h, h', if_true, if_false]
        constructor
        · intro e; omega
        · intro e; subst e; exact absurd h' h
      · simp only [h, h', if_false, true_iff]
        exact List.le_antisymm (List.not_lt.1 h') (List.not_lt.1 h)
  trans x y z := by
    unfold cS
    intro h1 h2
    have a : ¬ y < x := by
      intro h; have : ¬ x < y := fun hh => List.lt_irrefl _ (List.lt_trans h hh)
      simp [h, this] at h1
    have b : ¬ z < y := by
      intro h; have : ¬ y < z := fun hh => List.lt_irrefl _ (List.lt_trans h hh)
      simp [h, this] at h2
    have c : ¬ z < x := List.not_lt.2 (List.le_trans (List.not_lt.1 a) (List.not_lt.1 b))
    by_cases d : x < z
    · simp [d]
    · simp [c, d]
def cf : Q4 → Q4 → Int := lexC cS (lexC cS (lexC cS cS))
theorem cf_to : TO cf := cS_to.lex (cS_to.lex (cS_to.lex cS_to))
theorem cS_small (x y : List UInt8) : cS x y = -1 ∨ cS x y = 0 ∨ cS x y = 1 := by unfold cS; split; simp; split <;> simp
theorem cf_small (p q : Q4) : cf p q = -1 ∨ cf p q = 0 ∨ cf p q = 1 := by
  unfold cf lexC
  split
  · split
    · split
      · exact cS_small _ _
      · exact cS_small _ _
    · exact cS_small _ _
  · exact cS_small _ _
theorem bl_eq : ∀ (x y : List UInt8), Op.bytesLess x y = decide (x < y)
  | [], [] => by simp [Op.bytesLess]
  | _ :: _, [] => by simp [Op.bytesLess]
  | [], _ :: _ => by simp [Op.bytesLess]
  | a :: x, b :: y => by
    rw [Op.bytesLess, bl_eq x y]
    simp [List.cons_lt_cons_iff]
    rfl
theorem tl (x : List UInt8) : (ByteArray.mk ⟨x⟩).toList = x := by rw [Lib.toList_data]
theorem isNaNS_any (x : ByteArray) (w : World) : Calls Try.prog 59 #[.string x] w fun e w' => e = .returned (.bool false) ∧ w' = w := by
  go_enter Try.func59, Try.ntmps59
  go_wp2
  go_ret
  exact ⟨rfl, rfl⟩
theorem compareS_any (x y : List UInt8) (w : World) : Calls Try.prog 52 #[.string ⟨⟨x⟩⟩, .string ⟨⟨y⟩⟩] w fun e w' => e = .returned (.int .i64 (cS x y)) ∧ w' = w := by
  have Nn := isNaNS_any
  unfold cS
  by_cases h1 : x < y
  · have e1 : Op.bytesLess x y = true := by rw [bl_eq]; simpa using h1
    rw [if_pos h1]
    replace h1 := Lib.hid h1
    go_enter Try.func52, Try.ntmps52
    go_wp2_with (go_at_call 59; refine (Nn _ _).mono ?_; rintro e w1 ⟨rfl, hw⟩; replace hw := hw.symm; subst hw)
    go_ret
    exact ⟨rfl, rfl⟩
  · have e1 : Op.bytesLess x y = false := by rw [bl_eq]; simpa using h1
    rw [if_neg h1]
    by_cases h2 : y < x
    · have e2 : (x == y) = false := by rw [beq_eq_false_iff_ne]; intro e; subst e; exact h1 h2
      rw [if_pos h2]
      replace h1 := Lib.hid h1
      replace h2 := Lib.hid h2
      go_enter Try.func52, Try.ntmps52
      go_wp2_with (go_at_call 59; refine (Nn _ _).mono ?_; rintro e w1 ⟨rfl, hw⟩; replace hw := hw.symm; subst hw)
      go_ret
      exact ⟨rfl, rfl⟩
    · have e2 : (x == y) = true := by rw [beq_iff_eq]; exact List.le_antisymm (List.not_lt.1 h2) (List.not_lt.1 h1)
      rw [if_neg h2]
      replace h1 := Lib.hid h1
      replace h2 := Lib.hid h2
      go_enter Try.func52, Try.ntmps52
      go_wp2_with (go_at_call 59; refine (Nn _ _).mono ?_; rintro e w1 ⟨rfl, hw⟩; replace hw := hw.symm; subst hw)
      go_ret
      exact ⟨rfl, rfl⟩
/-- The first of some numbers that is not 0. -/
def firstNZ : List Int → Int
  | [] => 0
  | x :: l => if x = 0 then firstNZ l else x
theorem or4_any {w : World} {g : Nat} (L : List Int) (n : Nat) (hn : n = L.length) (h9 : n ≤ 100) (hc : ∀ k x, L[k]? = some x → w.cell? ⟨g, k, none⟩ = some (.int .i64 x)) :
    Calls Try.prog 40 #[.slice (some ⟨g, 0, none⟩) n n] w fun e w' => e = .returned (.int .i64 (firstNZ L)) ∧ w' = w := by
  replace hn := Lib.hid hn
  obtain ⟨r, hr⟩ : ∃ r, r = firstNZ L := ⟨_, rfl⟩
  rw [← hr]
  have hr0 : Hid (r = firstNZ (L.drop 0)) := hr
  clear hr
  go_enter Try.func40, Try.ntmps40
  go_wp2_with fail
  go_loop [8] (fun i => ∃ k : Nat, k ≤ n ∧ i = .int .i64 (k : Int) ∧ Hid (r = firstNZ (L.drop k))) (fun i => n - (intOf i).toNat)
  case atStart => exact ⟨0, Nat.zero_le _, rfl, hr0⟩
  case round =>
    clear hr0
    obtain ⟨k, hk, rfl, hr⟩ := hrel
    by_cases hkn : k < n
    · obtain ⟨x, hx⟩ : ∃ x, L[k]? = some x := ⟨L[k]'(by rw [← hn.out]; exact hkn), List.getElem?_eq_getElem _⟩
      have c0 := hc k x hx
      have hd : L.drop k = x :: L.drop (k + 1) := by
        obtain ⟨h1, h2⟩ := List.getElem?_eq_some_iff.1 hx
        rw [List.drop_eq_getElem_cons h1, h2]
      have hkn' : (k : Int) < n := by omega
      rw [hd] at hr
      by_cases h0 : x = 0
      · have hr1 : Hid (r = firstNZ (L.drop (k + 1))) := Lib.hid (by rw [hr.out, h0]; rfl)
        have hb : (x != 0) = false := by simp [h0]
        clear hd
        go_wp2_with fail
        go_round
        case rel => exact ⟨k + 1, by omega, by go_num, hr1⟩
        case measure => simp [intOf]; omega
      · have hr1 : r = x := by rw [hr.out]; unfold firstNZ; rw [if_neg h0]
        subst hr1
        have hb : (r != 0) = true := by simp [h0]
        clear hd
        go_wp2_with fail
        go_ret
        exact ⟨rfl, rfl⟩
    · obtain rfl : k = n := by omega
      have hd : L.drop k = [] := by rw [hn.out]; exact List.drop_length ..
      have hr1 : r = 0 := by rw [hr.out, hd]; rfl
      subst hr1
      go_wp2_with fail
      go_ret
      exact ⟨rfl, rfl⟩
theorem cf_first (p q : Q4) : cf p q = firstNZ [cS p.1 q.1, cS p.2.1 q.2.1, cS p.2.2.1 q.2.2.1, cS p.2.2.2 q.2.2.2] := by
  simp only [cf, lexC, firstNZ]
  split <;> first | rfl | (split <;> first | rfl | (split <;> first | rfl | (split <;> omega)))
end Sc
end Go.Proofs.Ytojfnegogdllfaa
