/- matchPart of source: what it returns is told by a function of the two lists of bytes. -/
import Derived.Test.YtfebacopbacopaaDoorSrcA
set_option linter.unusedVariables false
set_option linter.unusedSimpArgs false
namespace Go.Proofs.YtfebacopbacopaaDoor
open Go.RowKit Dice
namespace Sc
def mp : Nat → List UInt8 → List UInt8 → Bool
  | 0, _, _ => false
  | _ + 1, [], c => c.isEmpty
  | n + 1, x :: p, c => if x = 42 then mp n p c || (match c with | [] => false | _ :: c' => mp n (x :: p) c') else (match c with | [] => false | y :: c' => (x == 63 || x == y) && mp n p c')
theorem drop_one (x : UInt8) (p : List UInt8) : (ByteArray.mk ⟨x :: p⟩).extract 1 (p.length + 1) = ⟨⟨p⟩⟩ := by
  apply ByteArray.ext
  rw [ByteArray.data_extract]
  apply Array.ext'
  simp
theorem first_byte (x : UInt8) (p : List UInt8) (h : 0 < (ByteArray.mk ⟨x :: p⟩).size) : (ByteArray.mk ⟨x :: p⟩)[0] = x := rfl
theorem mp_star (n : Nat) (p c : List UInt8) : mp (n + 1) (42 :: p) c = (mp n p c || (match c with | [] => false | _ :: c' => mp n (42 :: p) c')) := by
  simp only [mp, if_pos]
theorem mp_nil (n : Nat) (x : UInt8) (p : List UInt8) (h : x ≠ 42) : mp (n + 1) (x :: p) [] = false := by
  simp only [mp, if_neg h]
theorem mp_cons (n : Nat) (x y : UInt8) (p c : List UInt8) (h : x ≠ 42) : mp (n + 1) (x :: p) (y :: c) = ((x == 63 || x == y) && mp n p c) := by
  simp only [mp, if_neg h]
theorem u8_ne {x y : UInt8} (h : x ≠ y) : ((x.toNat : Int) == (y.toNat : Int)) = false := by
  simp
  intro e
  exact h (UInt8.toNat_inj.1 (by omega))
set_option maxRecDepth 100000 in
set_option maxHeartbeats 4000000 in
theorem match_any : ∀ (n : Nat) (p c : List UInt8), p.length + c.length < n → p.length ≤ 8 → c.length ≤ 8 → ∀ w : World,
    Calls Tryd.prog 57 #[.string ⟨⟨p⟩⟩, .string ⟨⟨c⟩⟩] w fun e w' => e = .returned (.bool (mp n p c)) ∧ Below w.heap.size w w'
  | 0, p, c, h, _, _, _ => absurd h (Nat.not_lt_zero _)
  | n + 1, [], c, h, hp, hc, w => by
    have e : Hid (mp (n + 1) [] c = c.isEmpty) := Lib.hid rfl
    rw [e.out]
    cases c with
    | nil =>
      go_enter Tryd.func57, Tryd.ntmps57
      go_wp2_with fail
      go_ret
      exact ⟨rfl, Below.refl _ _⟩
    | cons y t =>
      go_enter Tryd.func57, Tryd.ntmps57
      go_wp2_with fail
      go_ret
      exact ⟨rfl, Below.refl _ _⟩
  | n + 1, x :: p, c, h, hp, hc, w => by
    have IH := Lib.hid (match_any n)
    have ex := drop_one x p
    have hb : (ByteArray.mk ⟨x :: p⟩)[0]'(by show 0 < (x :: p).length; simp) = x := rfl
    have hsz : (ByteArray.mk ⟨x :: p⟩).size = p.length + 1 := rfl
    simp only [List.length_cons] at h hp
    by_cases hx : x = 42
    · subst hx
      have C1 := Lib.hid fun w' => IH.out p c (by omega) (by omega) hc w'
      cases h1 : mp n p c
      · rw [h1] at C1
        cases c with
        | nil =>
          have e : Hid (mp (n + 1) (42 :: p) [] = false) := Lib.hid (by rw [mp_star, h1]; rfl)
          rw [e.out]
          replace h1 := Lib.hid h1
          go_enter Tryd.func57, Tryd.ntmps57
          go_wp2_with (go_at_call 57; refine (C1.out _).mono ?_; rintro e w1 ⟨rfl, b1⟩)
          go_ret
          exact ⟨rfl, b1⟩
        | cons y t =>
          simp only [List.length_cons] at h hc
          have ey := drop_one y t
          have hsy : (ByteArray.mk ⟨y :: t⟩).size = t.length + 1 := rfl
          have e : Hid (mp (n + 1) (42 :: p) (y :: t) = mp n (42 :: p) t) := Lib.hid (by rw [mp_star, h1]; rfl)
          rw [e.out]
          have C2 := Lib.hid fun w' => IH.out (42 :: p) t (by simp only [List.length_cons]; omega) (by simp only [List.length_cons]; omega) (by omega) w'
          generalize mp n (42 :: p) t = r2 at C2 ⊢
          replace h1 := Lib.hid h1
          go_enter Tryd.func57, Tryd.ntmps57
          go_wp2_with (go_at_call 57; first
            | (with_reducible refine (C1.out _).mono ?_; rintro e w1 ⟨rfl, b1⟩)
            | (with_reducible refine (C2.out _).mono ?_; rintro e w2 ⟨rfl, b2⟩))
          go_ret
          exact ⟨rfl, Buf.then_ b1 b2⟩
      · have e : Hid (mp (n + 1) (42 :: p) c = true) := Lib.hid (by rw [mp_star, h1]; rfl)
        rw [h1] at C1
        rw [e.out]
        replace h1 := Lib.hid h1
        go_enter Tryd.func57, Tryd.ntmps57
        go_wp2_with (go_at_call 57; refine (C1.out _).mono ?_; rintro e w1 ⟨rfl, b1⟩)
        go_ret
        exact ⟨rfl, b1⟩
    · have dx : ((x.toNat : Int) == 42) = false := u8_ne hx
      cases c with
      | nil =>
        have e : Hid (mp (n + 1) (x :: p) [] = false) := Lib.hid (mp_nil n x p hx)
        rw [e.out]
        go_enter Tryd.func57, Tryd.ntmps57
        go_wp2_with fail
        go_quiet (fail)
        go_wp2
        go_ret
        exact ⟨rfl, Buf.below_drewN (Below.refl _ _) _⟩
      | cons y t =>
        simp only [List.length_cons] at h hc
        have ey := drop_one y t
        have hsy : (ByteArray.mk ⟨y :: t⟩).size = t.length + 1 := rfl
        have hby : (ByteArray.mk ⟨y :: t⟩)[0]'(by show 0 < (y :: t).length; simp) = y := rfl
        by_cases hxy : x = 63 ∨ x = y
        · have C1 := Lib.hid fun w' => IH.out p t (by omega) (by omega) (by omega) w'
          have e : Hid (mp (n + 1) (x :: p) (y :: t) = mp n p t) := Lib.hid (by
            rw [mp_cons n x y p t hx]
            have : (x == 63 || x == y) = true := by simpa using hxy
            rw [this, Bool.true_and])
          rw [e.out]
          generalize mp n p t = r at C1 ⊢
          by_cases h63 : x = 63
          · subst h63
            clear hxy
            go_enter Tryd.func57, Tryd.ntmps57
            go_wp2_with fail
            refine Buf.region_calm w (by kernel_rfl) (by kernel_rfl) (Below.refl _ _) ?_
            repeat (go_big_quiet_step ((intro hC; first
              | (go_at_call 57; exact Buf.calm hC (C1.out _))
              | rfl)))
            refine wpQuiet_nil ?_
            intro w3 hb3
            go_wp2
            go_ret
            exact ⟨rfl, hb3⟩
          · obtain rfl : x = y := hxy.resolve_left h63
            have d63 : ((x.toNat : Int) == 63) = false := u8_ne h63
            clear hxy
            go_enter Tryd.func57, Tryd.ntmps57
            go_wp2_with fail
            refine Buf.region_calm w (by kernel_rfl) (by kernel_rfl) (Below.refl _ _) ?_
            repeat (go_big_quiet_step ((intro hC; first
              | (go_at_call 57; exact Buf.calm hC (C1.out _))
              | rfl)))
            refine wpQuiet_nil ?_
            intro w3 hb3
            go_wp2
            go_ret
            exact ⟨rfl, hb3⟩
        · have n1 : x ≠ 63 := fun h => hxy (.inl h)
          have n2 : x ≠ y := fun h => hxy (.inr h)
          have d63 : ((x.toNat : Int) == 63) = false := u8_ne n1
          have dxy : ((x.toNat : Int) == (y.toNat : Int)) = false := u8_ne n2
          have e : Hid (mp (n + 1) (x :: p) (y :: t) = false) := Lib.hid (by
            rw [mp_cons n x y p t hx]
            have : (x == 63 || x == y) = false := by simp [n1, n2]
            rw [this, Bool.false_and])
          rw [e.out]
          clear hxy n1 n2 hx
          go_enter Tryd.func57, Tryd.ntmps57
          go_wp2_with fail
          go_quiet (fail)
          go_wp2
          go_ret
          exact ⟨rfl, Buf.below_drewN (Below.refl _ _) _⟩
end Sc
end Go.Proofs.YtfebacopbacopaaDoor
