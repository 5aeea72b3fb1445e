/- The walk of LinkApart. -/
import Derived.Test.YtjgbidnijfecoaaLnkQ
import Derived.Test.YtjgbidnijfecoaaInvS
set_option linter.unusedVariables false
set_option linter.unusedSimpArgs false
namespace Go.Proofs.Ytjgbidnijfecoaa
open Go.RowKit Wi Dice
namespace Laws
open Lnk
set_option maxHeartbeats 8000000 in
set_option maxRecDepth 100000 in
theorem linkApart_walk (a0 : Option Addr) (len0 cap0 : Nat) (z0 : List Int) (w : World) (w0 : Buf.IsRow .i64 w a0 len0 cap0 z0) :
    Calls Try.prog 3 #[.slice a0 len0 cap0] w fun e w' => e = .returned (.bool true) ∧ Below w.heap.size w w' := by
  by_cases hs : len0 ≤ 500
  · have hd : decide ((len0 : Int) ≤ 500) = true := by simp; omega
    go_enter Try.func3, Try.ntmps3
    go_wp2_with (first | (go_at_call 6; refine (light_any _ _ _ _).mono ?_; rintro e w1 ⟨rfl, rfl⟩; rw [hd]) | (go_at_call 8; refine (roll_any a0 len0 cap0 z0 _ w0 hs).mono ?_; rintro e w2 ⟨rfl, hdi⟩))
    have L0 := Lib.hid (Dice.Left.refl hdi)
    have H := Lib.hid hdi
    have hlt := hdi.lt
    clear hdi
    refine (Lnk.new_any _).mono ?_
    rintro e w3 ⟨rfl, hb3⟩
    replace L0 := Lib.hid (L0.out.below hb3)
    have z3 := hb3.size
    clear hb3
    go_wp2_with fail
    refine (Lnk.new_any _).mono ?_
    rintro e w4 ⟨rfl, hb4⟩
    replace L0 := Lib.hid (L0.out.below hb4)
    have z4 := hb4.size
    clear hb4
    go_wp2_with fail
    refine (Lnk.new_any _).mono ?_
    rintro e w5 ⟨rfl, hb5⟩
    replace L0 := Lib.hid (L0.out.below hb5)
    have z5 := hb5.size
    clear hb5
    have WA : Hid (∀ k : Nat, k < 3 → WB w2.heap.size (w5.heap.size + k) 0 0 (.slice none 0 0) [] (((w5.alloc (.cells #[.int .i64 0, .int .i64 0, .slice none 0 0] 29)).alloc (.cells #[.int .i64 0, .int .i64 0, .slice none 0 0] 29)).alloc (.cells #[.int .i64 0, .int .i64 0, .slice none 0 0] 29))) := Lib.hid fun k hk => by
      refine ⟨World.ownsRow_nil _ _ _ _, ?_, by omega⟩
      obtain rfl | rfl | rfl : k = 0 ∨ k = 1 ∨ k = 2 := by omega
      · exact (heap_alloc_old _ _ (by simp only [World.size_alloc]; omega)).trans ((heap_alloc_old _ _ (by simp only [World.size_alloc]; omega)).trans (heap_alloc_new w5 _))
      · refine (heap_alloc_old _ _ (by simp only [World.size_alloc]; omega)).trans ?_
        have h := heap_alloc_new (w5.alloc (.cells #[.int .i64 0, .int .i64 0, .slice none 0 0] 29)) (.cells #[.int .i64 0, .int .i64 0, .slice none 0 0] 29)
        rw [World.size_alloc] at h; exact h
      · have h := heap_alloc_new ((w5.alloc (.cells #[.int .i64 0, .int .i64 0, .slice none 0 0] 29)).alloc (.cells #[.int .i64 0, .int .i64 0, .slice none 0 0] 29)) (.cells #[.int .i64 0, .int .i64 0, .slice none 0 0] 29)
        rw [World.size_alloc, World.size_alloc] at h; exact h
    replace L0 := Lib.hid (((L0.out.below (new_block (.cells #[.int .i64 0, .int .i64 0, .slice none 0 0] 29))).below (new_block (.cells #[.int .i64 0, .int .i64 0, .slice none 0 0] 29))).below (new_block (.cells #[.int .i64 0, .int .i64 0, .slice none 0 0] 29)))
    have N0 : Hid (AN 0 0 0 0 [] [] []) := Lib.hid (by
      have G : Lnk.Good ((0 : Nat) : Int) 0 [] := ⟨by omega, by omega, by omega, by omega, by simp, fun k p hp => by simp at hp, fun k p q hp hq => by simp at hp⟩
      exact ⟨G, G, G, ⟨rfl⟩, ⟨rfl⟩, by simp, ⟨by omega, by omega, by omega⟩, ⟨by simp, by simp, by simp⟩⟩)
    go_upto_region 5 with fail
    have A4 := Lib.hid (WA.out 0 (by omega))
    have A5 := Lib.hid (WA.out 1 (by omega))
    have A6 := Lib.hid (WA.out 2 (by omega))
    clear WA
    generalize ((w5.alloc (.cells #[.int .i64 0, .int .i64 0, .slice none 0 0] 29)).alloc (.cells #[.int .i64 0, .int .i64 0, .slice none 0 0] 29)).alloc (.cells #[.int .i64 0, .int .i64 0, .slice none 0 0] 29) = w6 at *
    rw [Nat.add_zero] at A4
    obtain ⟨b5, hb5⟩ : ∃ b5, b5 = w5.heap.size + 1 := ⟨_, rfl⟩
    obtain ⟨b6, hb6⟩ : ∃ b6, b6 = w5.heap.size + 1 + 1 := ⟨_, rfl⟩
    replace A6 : Hid (WB w2.heap.size (w5.heap.size + 1 + 1) 0 0 (.slice none 0 0) [] w6) := A6
    obtain ⟨b4, hb4⟩ : ∃ b4, b4 = w5.heap.size := ⟨_, rfl⟩
    have h45 : b4 ≠ b5 := by omega
    have h46 : b4 ≠ b6 := by omega
    have h56 : b5 ≠ b6 := by omega
    simp only [← hb6] at A6 ⊢
    simp only [← hb5] at A5 ⊢
    simp only [← hb4] at A4 ⊢
    obtain ⟨N, hN⟩ : ∃ N, N = w2.heap.size := ⟨_, rfl⟩
    rw [← hN] at A4 A5 A6
    replace hN := Lib.hid hN
    have hgN : w1.heap.size < N := by rw [hN.out]; exact hlt
    clear hb4 hb5 hb6 z3 z4 z5
    go_wp2_with fail
    go_loopw [7] (fun i wr => ∃ (j : Nat) (o1 o2 o3 : Int) (r1 r2 r3 : Value) (L1 L2 L3 : List T3), j ≤ 16 ∧ i = .int .i64 (j : Int) ∧ Hid (WB N b4 (j : Int) o1 r1 L1 wr) ∧ Hid (WB N b5 (j : Int) o2 r2 L2 wr) ∧ Hid (WB N b6 (j : Int) o3 r3 L3 wr) ∧ Hid (Dice.Left w1 w2 wr w1.heap.size a0 len0 cap0 z0) ∧ Hid (AN j o1 o2 o3 L1 L2 L3)) (fun i _ => (16 - intOf i).toNat)
    case atStart => exact ⟨0, 0, 0, 0, _, _, _, [], [], [], by omega, rfl, A4, A5, A6, L0, N0⟩
    case round =>
      clear A4 A5 A6 L0 N0
      obtain ⟨j, o1, o2, o3, r1, r2, r3, L1, L2, L3, hj, rfl, A4, A5, A6, L0, N0⟩ := hrel
      by_cases hj16 : j < 16
      · have hj16' : (j : Int) < 16 := by omega
        obtain ⟨wo, rfl⟩ : ∃ wo : World, wo = wr := ⟨_, rfl⟩
        go_upto_region 8 with fail
        go_cut [40] from 35 to 160 (fun s40 wx => ∃ wy : World, wy = wx ∧ s40 = .bool (decide (j < 9)) ∧ Hid (wy = wo))
        case first =>
          go_wp2_with fail
          go_meet
          exact ⟨_, rfl, by simp; omega, Lib.hid rfl⟩
        case rest =>
        rename_i hKK
        refine hKK _ _ ?_
        clear hKK
        obtain ⟨wy, ewy, rfl, hwy⟩ := hcut
        subst ewy
        obtain rfl := hwy.out
        clear hwy
        go_cut [8, 9, 10, 11, 12, 13, 14] from 35 to 160 (fun s8 s9 s10 s11 s12 s13 s14 wx => ∃ (o1 o2 o3 : Int) (r1 r2 r3 : Value) (L1 L2 L3 : List T3), Hid (WB N b4 (j : Int) o1 r1 L1 wx) ∧ Hid (WB N b5 (j : Int) o2 r2 L2 wx) ∧ Hid (WB N b6 (j : Int) o3 r3 L3 wx) ∧ Hid (Dice.Left w1 w2 wx w1.heap.size a0 len0 cap0 z0) ∧ Hid (AM j o1 o2 o3 L1 L2 L3))
        case first =>
          by_cases hj9 : j < 9
          · have hdj : decide (j < 9) = true := decide_eq_true hj9
            rw [hdj]
            go_upto_region 9 with fail
            refine wp_region_noPanic ?_
            refine wp_region_any (by kernel_rfl) ?_
            refine InvS.wpAny_inv (fun k => false) [41, 42, 43, 44, 45, 46, 47, 8, 9] (fun w' => WB N b4 (j : Int) o1 r1 L1 w' ∧ WB N b5 (j : Int) o2 r2 L2 w' ∧ WB N b6 (j : Int) o3 r3 L3 w' ∧ Dice.Left w1 w2 w' w1.heap.size a0 len0 cap0 z0) (fun k w1' w2' => StepR w1.heap.size k w1' w2') (fun k => ([fun s_ w_ => (s_ 41) = .pointer (some ⟨w1.heap.size, 0, none⟩), fun s_ w_ => ∃ (b_ : Bool) (dl_ cp_ : Int), (s_ 42) = .agg #[.bool b_, .int .i64 dl_, .int .i64 cp_] ∧ 0 ≤ dl_ ∧ dl_ ≤ 5 ∧ 0 ≤ cp_ ∧ cp_ ≤ 2, fun s_ w_ => ∃ p_ : Nat, N ≤ p_ ∧ (s_ 43) = .slice (some ⟨p_, 0, none⟩) 4 4 ∧ w_.heap[p_]? = some (.cells #[.string ⟨#[97, 49]⟩, .string ⟨#[97, 50]⟩, .string ⟨#[98, 49]⟩, .string ⟨#[98, 50]⟩] 9 (0, 0)), fun s_ w_ => (s_ 44) = .pointer (some ⟨w1.heap.size, 0, none⟩), fun s_ w_ => ∃ q_ : Nat, (s_ 45) = .int .i64 (q_ : Int) ∧ q_ < 4, fun s_ w_ => ∃ p_ q_ : Nat, N ≤ p_ ∧ (s_ 46) = .pointer (some ⟨p_, q_, none⟩) ∧ q_ < 4 ∧ w_.heap[p_]? = some (.cells #[.string ⟨#[97, 49]⟩, .string ⟨#[97, 50]⟩, .string ⟨#[98, 49]⟩, .string ⟨#[98, 50]⟩] 9 (0, 0)), fun s_ w_ => ∃ q_ : Nat, (s_ 47) = .string (ms q_), fun s_ w_ => ∃ (p_ : Nat) (x_ y_ z_ : Value), N ≤ p_ ∧ (s_ 8) = .pointer (some ⟨p_, 0, none⟩) ∧ w_.heap[p_]? = some (.cells #[x_, y_, z_] 32 (0, 0)), fun s_ w_ => ∃ (p_ : Nat) (b_ : Bool) (dl_ cp_ : Int), N ≤ p_ ∧ (s_ 8) = .pointer (some ⟨p_, 0, none⟩) ∧ w_.heap[p_]? = some (.cells #[.bool b_, .int .i64 dl_, .int .i64 cp_] 32 (0, 0)) ∧ 0 ≤ dl_ ∧ dl_ ≤ 5 ∧ 0 ≤ cp_ ∧ cp_ ≤ 2, fun s_ w_ => ∃ q_ : Nat, (s_ 9) = .string (ms q_)] : List ((Nat → Value) → World → Prop)).getD k (fun _ _ => True)) _ (fun σ => by simp only [Inv.putAll, List.foldl_cons, List.foldl_nil, Act.put, List.setIfInBounds_toArray, List.set_cons_zero, List.set_cons_succ]; rfl) (by kernel_rfl) (by kernel_rfl) ?_ ⟨A4.out.below ((Below.refl _ _).drew), A5.out.below ((Below.refl _ _).drew), A6.out.below ((Below.refl _ _).drew), L0.out.below ((Below.refl _ _).drew)⟩ ?_ ?_ 0 #[true, true, true, true, true, true, true, true, true, true] (by kernel_rfl) (by kernel_rfl) ?_
            · intro j k oj σ v w1 w2 hoj hlj hjk hdp hv hr
              rcases k with _ | k
              · have hS : oj.dst ≠ some 41 := by
                  clear hv hr
                  rcases j with _ | j
                  · first | exact absurd rfl hjk | exact absurd hdp (by decide +kernel) | (simp only [List.getElem?_toArray, List.getElem?_cons_zero, List.getElem?_cons_succ, Option.some.injEq] at hoj; subst hoj; decide)
                  rcases j with _ | j
                  · first | exact absurd rfl hjk | exact absurd hdp (by decide +kernel) | (simp only [List.getElem?_toArray, List.getElem?_cons_zero, List.getElem?_cons_succ, Option.some.injEq] at hoj; subst hoj; decide)
                  rcases j with _ | j
                  · first | exact absurd rfl hjk | exact absurd hdp (by decide +kernel) | (simp only [List.getElem?_toArray, List.getElem?_cons_zero, List.getElem?_cons_succ, Option.some.injEq] at hoj; subst hoj; decide)
                  rcases j with _ | j
                  · first | exact absurd rfl hjk | exact absurd hdp (by decide +kernel) | (simp only [List.getElem?_toArray, List.getElem?_cons_zero, List.getElem?_cons_succ, Option.some.injEq] at hoj; subst hoj; decide)
                  rcases j with _ | j
                  · first | exact absurd rfl hjk | exact absurd hdp (by decide +kernel) | (simp only [List.getElem?_toArray, List.getElem?_cons_zero, List.getElem?_cons_succ, Option.some.injEq] at hoj; subst hoj; decide)
                  rcases j with _ | j
                  · first | exact absurd rfl hjk | exact absurd hdp (by decide +kernel) | (simp only [List.getElem?_toArray, List.getElem?_cons_zero, List.getElem?_cons_succ, Option.some.injEq] at hoj; subst hoj; decide)
                  rcases j with _ | j
                  · first | exact absurd rfl hjk | exact absurd hdp (by decide +kernel) | (simp only [List.getElem?_toArray, List.getElem?_cons_zero, List.getElem?_cons_succ, Option.some.injEq] at hoj; subst hoj; decide)
                  rcases j with _ | j
                  · first | exact absurd rfl hjk | exact absurd hdp (by decide +kernel) | (simp only [List.getElem?_toArray, List.getElem?_cons_zero, List.getElem?_cons_succ, Option.some.injEq] at hoj; subst hoj; decide)
                  rcases j with _ | j
                  · first | exact absurd rfl hjk | exact absurd hdp (by decide +kernel) | (simp only [List.getElem?_toArray, List.getElem?_cons_zero, List.getElem?_cons_succ, Option.some.injEq] at hoj; subst hoj; decide)
                  rcases j with _ | j
                  · first | exact absurd rfl hjk | exact absurd hdp (by decide +kernel) | (simp only [List.getElem?_toArray, List.getElem?_cons_zero, List.getElem?_cons_succ, Option.some.injEq] at hoj; subst hoj; decide)
                  · exact absurd (Array.getElem?_eq_some_iff.1 hoj).1 (by simp)
                simp only [List.getD_cons_zero, List.getD_cons_succ, InvS.updo_ne hS] at hv ⊢
                exact hv
              rcases k with _ | k
              · have hS : oj.dst ≠ some 42 := by
                  clear hv hr
                  rcases j with _ | j
                  · first | exact absurd rfl hjk | exact absurd hdp (by decide +kernel) | (simp only [List.getElem?_toArray, List.getElem?_cons_zero, List.getElem?_cons_succ, Option.some.injEq] at hoj; subst hoj; decide)
                  rcases j with _ | j
                  · first | exact absurd rfl hjk | exact absurd hdp (by decide +kernel) | (simp only [List.getElem?_toArray, List.getElem?_cons_zero, List.getElem?_cons_succ, Option.some.injEq] at hoj; subst hoj; decide)
                  rcases j with _ | j
                  · first | exact absurd rfl hjk | exact absurd hdp (by decide +kernel) | (simp only [List.getElem?_toArray, List.getElem?_cons_zero, List.getElem?_cons_succ, Option.some.injEq] at hoj; subst hoj; decide)
                  rcases j with _ | j
                  · first | exact absurd rfl hjk | exact absurd hdp (by decide +kernel) | (simp only [List.getElem?_toArray, List.getElem?_cons_zero, List.getElem?_cons_succ, Option.some.injEq] at hoj; subst hoj; decide)
                  rcases j with _ | j
                  · first | exact absurd rfl hjk | exact absurd hdp (by decide +kernel) | (simp only [List.getElem?_toArray, List.getElem?_cons_zero, List.getElem?_cons_succ, Option.some.injEq] at hoj; subst hoj; decide)
                  rcases j with _ | j
                  · first | exact absurd rfl hjk | exact absurd hdp (by decide +kernel) | (simp only [List.getElem?_toArray, List.getElem?_cons_zero, List.getElem?_cons_succ, Option.some.injEq] at hoj; subst hoj; decide)
                  rcases j with _ | j
                  · first | exact absurd rfl hjk | exact absurd hdp (by decide +kernel) | (simp only [List.getElem?_toArray, List.getElem?_cons_zero, List.getElem?_cons_succ, Option.some.injEq] at hoj; subst hoj; decide)
                  rcases j with _ | j
                  · first | exact absurd rfl hjk | exact absurd hdp (by decide +kernel) | (simp only [List.getElem?_toArray, List.getElem?_cons_zero, List.getElem?_cons_succ, Option.some.injEq] at hoj; subst hoj; decide)
                  rcases j with _ | j
                  · first | exact absurd rfl hjk | exact absurd hdp (by decide +kernel) | (simp only [List.getElem?_toArray, List.getElem?_cons_zero, List.getElem?_cons_succ, Option.some.injEq] at hoj; subst hoj; decide)
                  rcases j with _ | j
                  · first | exact absurd rfl hjk | exact absurd hdp (by decide +kernel) | (simp only [List.getElem?_toArray, List.getElem?_cons_zero, List.getElem?_cons_succ, Option.some.injEq] at hoj; subst hoj; decide)
                  · exact absurd (Array.getElem?_eq_some_iff.1 hoj).1 (by simp)
                simp only [List.getD_cons_zero, List.getD_cons_succ, InvS.updo_ne hS] at hv ⊢
                exact hv
              rcases k with _ | k
              · have hS : oj.dst ≠ some 43 := by
                  clear hv hr
                  rcases j with _ | j
                  · first | exact absurd rfl hjk | exact absurd hdp (by decide +kernel) | (simp only [List.getElem?_toArray, List.getElem?_cons_zero, List.getElem?_cons_succ, Option.some.injEq] at hoj; subst hoj; decide)
                  rcases j with _ | j
                  · first | exact absurd rfl hjk | exact absurd hdp (by decide +kernel) | (simp only [List.getElem?_toArray, List.getElem?_cons_zero, List.getElem?_cons_succ, Option.some.injEq] at hoj; subst hoj; decide)
                  rcases j with _ | j
                  · first | exact absurd rfl hjk | exact absurd hdp (by decide +kernel) | (simp only [List.getElem?_toArray, List.getElem?_cons_zero, List.getElem?_cons_succ, Option.some.injEq] at hoj; subst hoj; decide)
                  rcases j with _ | j
                  · first | exact absurd rfl hjk | exact absurd hdp (by decide +kernel) | (simp only [List.getElem?_toArray, List.getElem?_cons_zero, List.getElem?_cons_succ, Option.some.injEq] at hoj; subst hoj; decide)
                  rcases j with _ | j
                  · first | exact absurd rfl hjk | exact absurd hdp (by decide +kernel) | (simp only [List.getElem?_toArray, List.getElem?_cons_zero, List.getElem?_cons_succ, Option.some.injEq] at hoj; subst hoj; decide)
                  rcases j with _ | j
                  · first | exact absurd rfl hjk | exact absurd hdp (by decide +kernel) | (simp only [List.getElem?_toArray, List.getElem?_cons_zero, List.getElem?_cons_succ, Option.some.injEq] at hoj; subst hoj; decide)
                  rcases j with _ | j
                  · first | exact absurd rfl hjk | exact absurd hdp (by decide +kernel) | (simp only [List.getElem?_toArray, List.getElem?_cons_zero, List.getElem?_cons_succ, Option.some.injEq] at hoj; subst hoj; decide)
                  rcases j with _ | j
                  · first | exact absurd rfl hjk | exact absurd hdp (by decide +kernel) | (simp only [List.getElem?_toArray, List.getElem?_cons_zero, List.getElem?_cons_succ, Option.some.injEq] at hoj; subst hoj; decide)
                  rcases j with _ | j
                  · first | exact absurd rfl hjk | exact absurd hdp (by decide +kernel) | (simp only [List.getElem?_toArray, List.getElem?_cons_zero, List.getElem?_cons_succ, Option.some.injEq] at hoj; subst hoj; decide)
                  rcases j with _ | j
                  · first | exact absurd rfl hjk | exact absurd hdp (by decide +kernel) | (simp only [List.getElem?_toArray, List.getElem?_cons_zero, List.getElem?_cons_succ, Option.some.injEq] at hoj; subst hoj; decide)
                  · exact absurd (Array.getElem?_eq_some_iff.1 hoj).1 (by simp)
                simp only [List.getD_cons_zero, List.getD_cons_succ, InvS.updo_ne hS] at hv ⊢
                exact (by obtain ⟨p, h1, h2, h3⟩ := hv; exact ⟨p, h1, h2, apart_keep hgN hr (by decide) h1 h3⟩)
              rcases k with _ | k
              · have hS : oj.dst ≠ some 44 := by
                  clear hv hr
                  rcases j with _ | j
                  · first | exact absurd rfl hjk | exact absurd hdp (by decide +kernel) | (simp only [List.getElem?_toArray, List.getElem?_cons_zero, List.getElem?_cons_succ, Option.some.injEq] at hoj; subst hoj; decide)
                  rcases j with _ | j
                  · first | exact absurd rfl hjk | exact absurd hdp (by decide +kernel) | (simp only [List.getElem?_toArray, List.getElem?_cons_zero, List.getElem?_cons_succ, Option.some.injEq] at hoj; subst hoj; decide)
                  rcases j with _ | j
                  · first | exact absurd rfl hjk | exact absurd hdp (by decide +kernel) | (simp only [List.getElem?_toArray, List.getElem?_cons_zero, List.getElem?_cons_succ, Option.some.injEq] at hoj; subst hoj; decide)
                  rcases j with _ | j
                  · first | exact absurd rfl hjk | exact absurd hdp (by decide +kernel) | (simp only [List.getElem?_toArray, List.getElem?_cons_zero, List.getElem?_cons_succ, Option.some.injEq] at hoj; subst hoj; decide)
                  rcases j with _ | j
                  · first | exact absurd rfl hjk | exact absurd hdp (by decide +kernel) | (simp only [List.getElem?_toArray, List.getElem?_cons_zero, List.getElem?_cons_succ, Option.some.injEq] at hoj; subst hoj; decide)
                  rcases j with _ | j
                  · first | exact absurd rfl hjk | exact absurd hdp (by decide +kernel) | (simp only [List.getElem?_toArray, List.getElem?_cons_zero, List.getElem?_cons_succ, Option.some.injEq] at hoj; subst hoj; decide)
                  rcases j with _ | j
                  · first | exact absurd rfl hjk | exact absurd hdp (by decide +kernel) | (simp only [List.getElem?_toArray, List.getElem?_cons_zero, List.getElem?_cons_succ, Option.some.injEq] at hoj; subst hoj; decide)
                  rcases j with _ | j
                  · first | exact absurd rfl hjk | exact absurd hdp (by decide +kernel) | (simp only [List.getElem?_toArray, List.getElem?_cons_zero, List.getElem?_cons_succ, Option.some.injEq] at hoj; subst hoj; decide)
                  rcases j with _ | j
                  · first | exact absurd rfl hjk | exact absurd hdp (by decide +kernel) | (simp only [List.getElem?_toArray, List.getElem?_cons_zero, List.getElem?_cons_succ, Option.some.injEq] at hoj; subst hoj; decide)
                  rcases j with _ | j
                  · first | exact absurd rfl hjk | exact absurd hdp (by decide +kernel) | (simp only [List.getElem?_toArray, List.getElem?_cons_zero, List.getElem?_cons_succ, Option.some.injEq] at hoj; subst hoj; decide)
                  · exact absurd (Array.getElem?_eq_some_iff.1 hoj).1 (by simp)
                simp only [List.getD_cons_zero, List.getD_cons_succ, InvS.updo_ne hS] at hv ⊢
                exact hv
              rcases k with _ | k
              · have hS : oj.dst ≠ some 45 := by
                  clear hv hr
                  rcases j with _ | j
                  · first | exact absurd rfl hjk | exact absurd hdp (by decide +kernel) | (simp only [List.getElem?_toArray, List.getElem?_cons_zero, List.getElem?_cons_succ, Option.some.injEq] at hoj; subst hoj; decide)
                  rcases j with _ | j
                  · first | exact absurd rfl hjk | exact absurd hdp (by decide +kernel) | (simp only [List.getElem?_toArray, List.getElem?_cons_zero, List.getElem?_cons_succ, Option.some.injEq] at hoj; subst hoj; decide)
                  rcases j with _ | j
                  · first | exact absurd rfl hjk | exact absurd hdp (by decide +kernel) | (simp only [List.getElem?_toArray, List.getElem?_cons_zero, List.getElem?_cons_succ, Option.some.injEq] at hoj; subst hoj; decide)
                  rcases j with _ | j
                  · first | exact absurd rfl hjk | exact absurd hdp (by decide +kernel) | (simp only [List.getElem?_toArray, List.getElem?_cons_zero, List.getElem?_cons_succ, Option.some.injEq] at hoj; subst hoj; decide)
                  rcases j with _ | j
                  · first | exact absurd rfl hjk | exact absurd hdp (by decide +kernel) | (simp only [List.getElem?_toArray, List.getElem?_cons_zero, List.getElem?_cons_succ, Option.some.injEq] at hoj; subst hoj; decide)
                  rcases j with _ | j
                  · first | exact absurd rfl hjk | exact absurd hdp (by decide +kernel) | (simp only [List.getElem?_toArray, List.getElem?_cons_zero, List.getElem?_cons_succ, Option.some.injEq] at hoj; subst hoj; decide)
                  rcases j with _ | j
                  · first | exact absurd rfl hjk | exact absurd hdp (by decide +kernel) | (simp only [List.getElem?_toArray, List.getElem?_cons_zero, List.getElem?_cons_succ, Option.some.injEq] at hoj; subst hoj; decide)
                  rcases j with _ | j
                  · first | exact absurd rfl hjk | exact absurd hdp (by decide +kernel) | (simp only [List.getElem?_toArray, List.getElem?_cons_zero, List.getElem?_cons_succ, Option.some.injEq] at hoj; subst hoj; decide)
                  rcases j with _ | j
                  · first | exact absurd rfl hjk | exact absurd hdp (by decide +kernel) | (simp only [List.getElem?_toArray, List.getElem?_cons_zero, List.getElem?_cons_succ, Option.some.injEq] at hoj; subst hoj; decide)
                  rcases j with _ | j
                  · first | exact absurd rfl hjk | exact absurd hdp (by decide +kernel) | (simp only [List.getElem?_toArray, List.getElem?_cons_zero, List.getElem?_cons_succ, Option.some.injEq] at hoj; subst hoj; decide)
                  · exact absurd (Array.getElem?_eq_some_iff.1 hoj).1 (by simp)
                simp only [List.getD_cons_zero, List.getD_cons_succ, InvS.updo_ne hS] at hv ⊢
                exact hv
              rcases k with _ | k
              · have hS : oj.dst ≠ some 46 := by
                  clear hv hr
                  rcases j with _ | j
                  · first | exact absurd rfl hjk | exact absurd hdp (by decide +kernel) | (simp only [List.getElem?_toArray, List.getElem?_cons_zero, List.getElem?_cons_succ, Option.some.injEq] at hoj; subst hoj; decide)
                  rcases j with _ | j
                  · first | exact absurd rfl hjk | exact absurd hdp (by decide +kernel) | (simp only [List.getElem?_toArray, List.getElem?_cons_zero, List.getElem?_cons_succ, Option.some.injEq] at hoj; subst hoj; decide)
                  rcases j with _ | j
                  · first | exact absurd rfl hjk | exact absurd hdp (by decide +kernel) | (simp only [List.getElem?_toArray, List.getElem?_cons_zero, List.getElem?_cons_succ, Option.some.injEq] at hoj; subst hoj; decide)
                  rcases j with _ | j
                  · first | exact absurd rfl hjk | exact absurd hdp (by decide +kernel) | (simp only [List.getElem?_toArray, List.getElem?_cons_zero, List.getElem?_cons_succ, Option.some.injEq] at hoj; subst hoj; decide)
                  rcases j with _ | j
                  · first | exact absurd rfl hjk | exact absurd hdp (by decide +kernel) | (simp only [List.getElem?_toArray, List.getElem?_cons_zero, List.getElem?_cons_succ, Option.some.injEq] at hoj; subst hoj; decide)
                  rcases j with _ | j
                  · first | exact absurd rfl hjk | exact absurd hdp (by decide +kernel) | (simp only [List.getElem?_toArray, List.getElem?_cons_zero, List.getElem?_cons_succ, Option.some.injEq] at hoj; subst hoj; decide)
                  rcases j with _ | j
                  · first | exact absurd rfl hjk | exact absurd hdp (by decide +kernel) | (simp only [List.getElem?_toArray, List.getElem?_cons_zero, List.getElem?_cons_succ, Option.some.injEq] at hoj; subst hoj; decide)
                  rcases j with _ | j
                  · first | exact absurd rfl hjk | exact absurd hdp (by decide +kernel) | (simp only [List.getElem?_toArray, List.getElem?_cons_zero, List.getElem?_cons_succ, Option.some.injEq] at hoj; subst hoj; decide)
                  rcases j with _ | j
                  · first | exact absurd rfl hjk | exact absurd hdp (by decide +kernel) | (simp only [List.getElem?_toArray, List.getElem?_cons_zero, List.getElem?_cons_succ, Option.some.injEq] at hoj; subst hoj; decide)
                  rcases j with _ | j
                  · first | exact absurd rfl hjk | exact absurd hdp (by decide +kernel) | (simp only [List.getElem?_toArray, List.getElem?_cons_zero, List.getElem?_cons_succ, Option.some.injEq] at hoj; subst hoj; decide)
                  · exact absurd (Array.getElem?_eq_some_iff.1 hoj).1 (by simp)
                simp only [List.getD_cons_zero, List.getD_cons_succ, InvS.updo_ne hS] at hv ⊢
                exact (by obtain ⟨p, q, h1, h2, h4, h3⟩ := hv; exact ⟨p, q, h1, h2, h4, apart_keep hgN hr (by decide) h1 h3⟩)
              rcases k with _ | k
              · have hS : oj.dst ≠ some 47 := by
                  clear hv hr
                  rcases j with _ | j
                  · first | exact absurd rfl hjk | exact absurd hdp (by decide +kernel) | (simp only [List.getElem?_toArray, List.getElem?_cons_zero, List.getElem?_cons_succ, Option.some.injEq] at hoj; subst hoj; decide)
                  rcases j with _ | j
                  · first | exact absurd rfl hjk | exact absurd hdp (by decide +kernel) | (simp only [List.getElem?_toArray, List.getElem?_cons_zero, List.getElem?_cons_succ, Option.some.injEq] at hoj; subst hoj; decide)
                  rcases j with _ | j
                  · first | exact absurd rfl hjk | exact absurd hdp (by decide +kernel) | (simp only [List.getElem?_toArray, List.getElem?_cons_zero, List.getElem?_cons_succ, Option.some.injEq] at hoj; subst hoj; decide)
                  rcases j with _ | j
                  · first | exact absurd rfl hjk | exact absurd hdp (by decide +kernel) | (simp only [List.getElem?_toArray, List.getElem?_cons_zero, List.getElem?_cons_succ, Option.some.injEq] at hoj; subst hoj; decide)
                  rcases j with _ | j
                  · first | exact absurd rfl hjk | exact absurd hdp (by decide +kernel) | (simp only [List.getElem?_toArray, List.getElem?_cons_zero, List.getElem?_cons_succ, Option.some.injEq] at hoj; subst hoj; decide)
                  rcases j with _ | j
                  · first | exact absurd rfl hjk | exact absurd hdp (by decide +kernel) | (simp only [List.getElem?_toArray, List.getElem?_cons_zero, List.getElem?_cons_succ, Option.some.injEq] at hoj; subst hoj; decide)
                  rcases j with _ | j
                  · first | exact absurd rfl hjk | exact absurd hdp (by decide +kernel) | (simp only [List.getElem?_toArray, List.getElem?_cons_zero, List.getElem?_cons_succ, Option.some.injEq] at hoj; subst hoj; decide)
                  rcases j with _ | j
                  · first | exact absurd rfl hjk | exact absurd hdp (by decide +kernel) | (simp only [List.getElem?_toArray, List.getElem?_cons_zero, List.getElem?_cons_succ, Option.some.injEq] at hoj; subst hoj; decide)
                  rcases j with _ | j
                  · first | exact absurd rfl hjk | exact absurd hdp (by decide +kernel) | (simp only [List.getElem?_toArray, List.getElem?_cons_zero, List.getElem?_cons_succ, Option.some.injEq] at hoj; subst hoj; decide)
                  rcases j with _ | j
                  · first | exact absurd rfl hjk | exact absurd hdp (by decide +kernel) | (simp only [List.getElem?_toArray, List.getElem?_cons_zero, List.getElem?_cons_succ, Option.some.injEq] at hoj; subst hoj; decide)
                  · exact absurd (Array.getElem?_eq_some_iff.1 hoj).1 (by simp)
                simp only [List.getD_cons_zero, List.getD_cons_succ, InvS.updo_ne hS] at hv ⊢
                exact hv
              rcases k with _ | k
              · have hS : oj.dst ≠ some 8 := by
                  clear hv hr
                  rcases j with _ | j
                  · first | exact absurd rfl hjk | exact absurd hdp (by decide +kernel) | (simp only [List.getElem?_toArray, List.getElem?_cons_zero, List.getElem?_cons_succ, Option.some.injEq] at hoj; subst hoj; decide)
                  rcases j with _ | j
                  · first | exact absurd rfl hjk | exact absurd hdp (by decide +kernel) | (simp only [List.getElem?_toArray, List.getElem?_cons_zero, List.getElem?_cons_succ, Option.some.injEq] at hoj; subst hoj; decide)
                  rcases j with _ | j
                  · first | exact absurd rfl hjk | exact absurd hdp (by decide +kernel) | (simp only [List.getElem?_toArray, List.getElem?_cons_zero, List.getElem?_cons_succ, Option.some.injEq] at hoj; subst hoj; decide)
                  rcases j with _ | j
                  · first | exact absurd rfl hjk | exact absurd hdp (by decide +kernel) | (simp only [List.getElem?_toArray, List.getElem?_cons_zero, List.getElem?_cons_succ, Option.some.injEq] at hoj; subst hoj; decide)
                  rcases j with _ | j
                  · first | exact absurd rfl hjk | exact absurd hdp (by decide +kernel) | (simp only [List.getElem?_toArray, List.getElem?_cons_zero, List.getElem?_cons_succ, Option.some.injEq] at hoj; subst hoj; decide)
                  rcases j with _ | j
                  · first | exact absurd rfl hjk | exact absurd hdp (by decide +kernel) | (simp only [List.getElem?_toArray, List.getElem?_cons_zero, List.getElem?_cons_succ, Option.some.injEq] at hoj; subst hoj; decide)
                  rcases j with _ | j
                  · first | exact absurd rfl hjk | exact absurd hdp (by decide +kernel) | (simp only [List.getElem?_toArray, List.getElem?_cons_zero, List.getElem?_cons_succ, Option.some.injEq] at hoj; subst hoj; decide)
                  rcases j with _ | j
                  · first | exact absurd rfl hjk | exact absurd hdp (by decide +kernel) | (simp only [List.getElem?_toArray, List.getElem?_cons_zero, List.getElem?_cons_succ, Option.some.injEq] at hoj; subst hoj; decide)
                  rcases j with _ | j
                  · first | exact absurd rfl hjk | exact absurd hdp (by decide +kernel) | (simp only [List.getElem?_toArray, List.getElem?_cons_zero, List.getElem?_cons_succ, Option.some.injEq] at hoj; subst hoj; decide)
                  rcases j with _ | j
                  · first | exact absurd rfl hjk | exact absurd hdp (by decide +kernel) | (simp only [List.getElem?_toArray, List.getElem?_cons_zero, List.getElem?_cons_succ, Option.some.injEq] at hoj; subst hoj; decide)
                  · exact absurd (Array.getElem?_eq_some_iff.1 hoj).1 (by simp)
                simp only [List.getD_cons_zero, List.getD_cons_succ, InvS.updo_ne hS] at hv ⊢
                exact (by obtain ⟨p, x, y, z, h1, h2, h3⟩ := hv; obtain ⟨x2, y2, z2, h4⟩ := apart_shape hgN hr h1 h3; exact ⟨p, x2, y2, z2, h1, h2, h4⟩)
              rcases k with _ | k
              · have hS : oj.dst ≠ some 8 := by
                  clear hv hr
                  rcases j with _ | j
                  · first | exact absurd rfl hjk | exact absurd hdp (by decide +kernel) | (simp only [List.getElem?_toArray, List.getElem?_cons_zero, List.getElem?_cons_succ, Option.some.injEq] at hoj; subst hoj; decide)
                  rcases j with _ | j
                  · first | exact absurd rfl hjk | exact absurd hdp (by decide +kernel) | (simp only [List.getElem?_toArray, List.getElem?_cons_zero, List.getElem?_cons_succ, Option.some.injEq] at hoj; subst hoj; decide)
                  rcases j with _ | j
                  · first | exact absurd rfl hjk | exact absurd hdp (by decide +kernel) | (simp only [List.getElem?_toArray, List.getElem?_cons_zero, List.getElem?_cons_succ, Option.some.injEq] at hoj; subst hoj; decide)
                  rcases j with _ | j
                  · first | exact absurd rfl hjk | exact absurd hdp (by decide +kernel) | (simp only [List.getElem?_toArray, List.getElem?_cons_zero, List.getElem?_cons_succ, Option.some.injEq] at hoj; subst hoj; decide)
                  rcases j with _ | j
                  · first | exact absurd rfl hjk | exact absurd hdp (by decide +kernel) | (simp only [List.getElem?_toArray, List.getElem?_cons_zero, List.getElem?_cons_succ, Option.some.injEq] at hoj; subst hoj; decide)
                  rcases j with _ | j
                  · first | exact absurd rfl hjk | exact absurd hdp (by decide +kernel) | (simp only [List.getElem?_toArray, List.getElem?_cons_zero, List.getElem?_cons_succ, Option.some.injEq] at hoj; subst hoj; decide)
                  rcases j with _ | j
                  · first | exact absurd rfl hjk | exact absurd hdp (by decide +kernel) | (simp only [List.getElem?_toArray, List.getElem?_cons_zero, List.getElem?_cons_succ, Option.some.injEq] at hoj; subst hoj; decide)
                  rcases j with _ | j
                  · first | exact absurd rfl hjk | exact absurd hdp (by decide +kernel) | (simp only [List.getElem?_toArray, List.getElem?_cons_zero, List.getElem?_cons_succ, Option.some.injEq] at hoj; subst hoj; decide)
                  rcases j with _ | j
                  · first | exact absurd rfl hjk | exact absurd hdp (by decide +kernel) | (simp only [List.getElem?_toArray, List.getElem?_cons_zero, List.getElem?_cons_succ, Option.some.injEq] at hoj; subst hoj; decide)
                  rcases j with _ | j
                  · first | exact absurd rfl hjk | exact absurd hdp (by decide +kernel) | (simp only [List.getElem?_toArray, List.getElem?_cons_zero, List.getElem?_cons_succ, Option.some.injEq] at hoj; subst hoj; decide)
                  · exact absurd (Array.getElem?_eq_some_iff.1 hoj).1 (by simp)
                simp only [List.getD_cons_zero, List.getD_cons_succ, InvS.updo_ne hS] at hv ⊢
                exact (by obtain ⟨p, b, dl, cp, h1, h2, h3, h4⟩ := hv; exact ⟨p, b, dl, cp, h1, h2, ((StepR.get hr hjk).block p (Array.getElem?_eq_some_iff.1 h3).1 (by simp; omega)).trans h3, h4⟩)
              rcases k with _ | k
              · have hS : oj.dst ≠ some 9 := by
                  clear hv hr
                  rcases j with _ | j
                  · first | exact absurd rfl hjk | exact absurd hdp (by decide +kernel) | (simp only [List.getElem?_toArray, List.getElem?_cons_zero, List.getElem?_cons_succ, Option.some.injEq] at hoj; subst hoj; decide)
                  rcases j with _ | j
                  · first | exact absurd rfl hjk | exact absurd hdp (by decide +kernel) | (simp only [List.getElem?_toArray, List.getElem?_cons_zero, List.getElem?_cons_succ, Option.some.injEq] at hoj; subst hoj; decide)
                  rcases j with _ | j
                  · first | exact absurd rfl hjk | exact absurd hdp (by decide +kernel) | (simp only [List.getElem?_toArray, List.getElem?_cons_zero, List.getElem?_cons_succ, Option.some.injEq] at hoj; subst hoj; decide)
                  rcases j with _ | j
                  · first | exact absurd rfl hjk | exact absurd hdp (by decide +kernel) | (simp only [List.getElem?_toArray, List.getElem?_cons_zero, List.getElem?_cons_succ, Option.some.injEq] at hoj; subst hoj; decide)
                  rcases j with _ | j
                  · first | exact absurd rfl hjk | exact absurd hdp (by decide +kernel) | (simp only [List.getElem?_toArray, List.getElem?_cons_zero, List.getElem?_cons_succ, Option.some.injEq] at hoj; subst hoj; decide)
                  rcases j with _ | j
                  · first | exact absurd rfl hjk | exact absurd hdp (by decide +kernel) | (simp only [List.getElem?_toArray, List.getElem?_cons_zero, List.getElem?_cons_succ, Option.some.injEq] at hoj; subst hoj; decide)
                  rcases j with _ | j
                  · first | exact absurd rfl hjk | exact absurd hdp (by decide +kernel) | (simp only [List.getElem?_toArray, List.getElem?_cons_zero, List.getElem?_cons_succ, Option.some.injEq] at hoj; subst hoj; decide)
                  rcases j with _ | j
                  · first | exact absurd rfl hjk | exact absurd hdp (by decide +kernel) | (simp only [List.getElem?_toArray, List.getElem?_cons_zero, List.getElem?_cons_succ, Option.some.injEq] at hoj; subst hoj; decide)
                  rcases j with _ | j
                  · first | exact absurd rfl hjk | exact absurd hdp (by decide +kernel) | (simp only [List.getElem?_toArray, List.getElem?_cons_zero, List.getElem?_cons_succ, Option.some.injEq] at hoj; subst hoj; decide)
                  rcases j with _ | j
                  · first | exact absurd rfl hjk | exact absurd hdp (by decide +kernel) | (simp only [List.getElem?_toArray, List.getElem?_cons_zero, List.getElem?_cons_succ, Option.some.injEq] at hoj; subst hoj; decide)
                  · exact absurd (Array.getElem?_eq_some_iff.1 hoj).1 (by simp)
                simp only [List.getD_cons_zero, List.getD_cons_succ, InvS.updo_ne hS] at hv ⊢
                exact hv
              · exact trivial
            · intro k hl
              rcases k with _ | k
              · exact absurd hl (by decide +kernel)
              rcases k with _ | k
              · exact absurd hl (by decide +kernel)
              rcases k with _ | k
              · exact absurd hl (by decide +kernel)
              rcases k with _ | k
              · exact absurd hl (by decide +kernel)
              rcases k with _ | k
              · exact absurd hl (by decide +kernel)
              rcases k with _ | k
              · exact absurd hl (by decide +kernel)
              rcases k with _ | k
              · exact absurd hl (by decide +kernel)
              rcases k with _ | k
              · exact absurd hl (by decide +kernel)
              rcases k with _ | k
              · exact absurd hl (by decide +kernel)
              rcases k with _ | k
              · exact absurd hl (by decide +kernel)
              · exact trivial
            · show InvS.Steps _ _ _ _ _ _ _ _ [0, 1, 2, 3, 4, 5, 6, 7, 8, 9]
              refine InvS.Steps.go (by decide) (by rfl) (fun σ wx hw hd K hK => ?_) ?_
              · simp only [List.getElem_toArray, List.getElem_cons_zero, List.getElem_cons_succ, Act.put, List.setIfInBounds_toArray, List.set_cons_zero, List.set_cons_succ] at hK ⊢
                go_simp
                exact hK.out _ _ hw (StepR.other (by decide) (World.grownBy.refl _ _)) (by rfl)
              refine InvS.Steps.go (by decide) (by rfl) (fun σ wx hw hd K hK => ?_) ?_
              · obtain e41 : (σ 41) = .pointer (some ⟨w1.heap.size, 0, none⟩) := hd 0 (some 41) (by kernel_rfl) (by rfl)
                simp only [List.getElem_toArray, List.getElem_cons_zero, List.getElem_cons_succ, Act.put, List.setIfInBounds_toArray, List.set_cons_zero, List.set_cons_succ, e41] at hK ⊢
                go_simp
                go_at_call 10
                refine (fault_any hw.2.2.2.di).mono ?_
                rintro e wy ⟨⟨bb, dl, cp, rfl, d0, d5, c0, c2⟩, hl⟩
                dsimp only
                exact hK.out _ _ ⟨hw.1.roll hw.2.2.2.di hgN hl, hw.2.1.roll hw.2.2.2.di hgN hl, hw.2.2.1.roll hw.2.2.2.di hgN hl, hw.2.2.2.trans hl⟩ (StepR.other (by decide) hl.far) (⟨bb, dl, cp, by rfl, d0, d5, c0, c2⟩)
              refine InvS.Steps.go (by decide) (by rfl) (fun σ wx hw hd K hK => ?_) ?_
              · simp only [List.getElem_toArray, List.getElem_cons_zero, List.getElem_cons_succ, Act.put, List.setIfInBounds_toArray, List.set_cons_zero, List.set_cons_succ] at hK ⊢
                have hsz := Nat.le_trans (Nat.le_of_eq hN.out) hw.2.2.2.far.size
                go_simp
                exact hK.out _ _ ⟨hw.1.below (new_block _), hw.2.1.below (new_block _), hw.2.2.1.below (new_block _), hw.2.2.2.below (new_block _)⟩ (StepR.other (by decide) (grown_of_below (new_block _))) (⟨wx.heap.size, hsz, by rfl, heap_alloc_new _ _⟩)
              refine InvS.Steps.go (by decide) (by rfl) (fun σ wx hw hd K hK => ?_) ?_
              · simp only [List.getElem_toArray, List.getElem_cons_zero, List.getElem_cons_succ, Act.put, List.setIfInBounds_toArray, List.set_cons_zero, List.set_cons_succ] at hK ⊢
                go_simp
                exact hK.out _ _ hw (StepR.other (by decide) (World.grownBy.refl _ _)) (by rfl)
              refine InvS.Steps.go (by decide) (by rfl) (fun σ wx hw hd K hK => ?_) ?_
              · obtain e44 : (σ 44) = .pointer (some ⟨w1.heap.size, 0, none⟩) := hd 3 (some 44) (by kernel_rfl) (by rfl)
                simp only [List.getElem_toArray, List.getElem_cons_zero, List.getElem_cons_succ, Act.put, List.setIfInBounds_toArray, List.set_cons_zero, List.set_cons_succ, e44] at hK ⊢
                go_simp
                go_at_call 11
                refine (next_any 4 hw.2.2.2.di (by omega) (by omega)).mono ?_
                rintro e wy ⟨⟨v4, rfl, v0, v1⟩, hl⟩
                obtain ⟨q, rfl⟩ := Int.eq_ofNat_of_zero_le v0
                dsimp only
                exact hK.out _ _ ⟨hw.1.roll hw.2.2.2.di hgN hl, hw.2.1.roll hw.2.2.2.di hgN hl, hw.2.2.1.roll hw.2.2.2.di hgN hl, hw.2.2.2.trans hl⟩ (StepR.other (by decide) hl.far) (⟨q, by rfl, by omega⟩)
              refine InvS.Steps.go (by decide) (by rfl) (fun σ wx hw hd K hK => ?_) ?_
              · obtain ⟨ps, hps, e43, K43⟩ : ∃ p_ : Nat, N ≤ p_ ∧ (σ 43) = .slice (some ⟨p_, 0, none⟩) 4 4 ∧ wx.heap[p_]? = some (.cells #[.string ⟨#[97, 49]⟩, .string ⟨#[97, 50]⟩, .string ⟨#[98, 49]⟩, .string ⟨#[98, 50]⟩] 9 (0, 0)) := hd 2 (some 43) (by kernel_rfl) (by rfl)
                obtain ⟨q, e45, hq4⟩ : ∃ q_ : Nat, (σ 45) = .int .i64 (q_ : Int) ∧ q_ < 4 := hd 4 (some 45) (by kernel_rfl) (by rfl)
                simp only [List.getElem_toArray, List.getElem_cons_zero, List.getElem_cons_succ, Act.put, List.setIfInBounds_toArray, List.set_cons_zero, List.set_cons_succ, e43, e45] at hK ⊢
                have hq4b : (q : Int) < 4 := by omega
                go_simp
                exact hK.out _ _ hw (StepR.other (by decide) (World.grownBy.refl _ _)) (⟨ps, q, hps, by rfl, hq4, K43⟩)
              refine InvS.Steps.go (by decide) (by rfl) (fun σ wx hw hd K hK => ?_) ?_
              · obtain ⟨ps, q, hps, e46, hq4, K46⟩ : ∃ p_ q_ : Nat, N ≤ p_ ∧ (σ 46) = .pointer (some ⟨p_, q_, none⟩) ∧ q_ < 4 ∧ wx.heap[p_]? = some (.cells #[.string ⟨#[97, 49]⟩, .string ⟨#[97, 50]⟩, .string ⟨#[98, 49]⟩, .string ⟨#[98, 50]⟩] 9 (0, 0)) := hd 5 (some 46) (by kernel_rfl) (by rfl)
                simp only [List.getElem_toArray, List.getElem_cons_zero, List.getElem_cons_succ, Act.put, List.setIfInBounds_toArray, List.set_cons_zero, List.set_cons_succ, e46] at hK ⊢
                have cq := ms_at K46 hq4
                go_simp
                exact hK.out _ _ hw (StepR.other (by decide) (World.grownBy.refl _ _)) (⟨q, by rfl⟩)
              refine InvS.Steps.go (by decide) (by rfl) (fun σ wx hw hd K hK => ?_) ?_
              · simp only [List.getElem_toArray, List.getElem_cons_zero, List.getElem_cons_succ, Act.put, List.setIfInBounds_toArray, List.set_cons_zero, List.set_cons_succ] at hK ⊢
                have hsz := Nat.le_trans (Nat.le_of_eq hN.out) hw.2.2.2.far.size
                go_simp
                exact hK.out _ _ ⟨hw.1.below (new_block _), hw.2.1.below (new_block _), hw.2.2.1.below (new_block _), hw.2.2.2.below (new_block _)⟩ (StepR.other (by decide) (grown_of_below (new_block _))) (⟨wx.heap.size, _, _, _, hsz, by rfl, heap_alloc_new _ _⟩)
              refine InvS.Steps.go (by decide) (by rfl) (fun σ wx hw hd K hK => ?_) ?_
              · obtain ⟨p8, x8, y8, z8, h8, e8, K8⟩ : ∃ (p_ : Nat) (x_ y_ z_ : Value), N ≤ p_ ∧ (σ 8) = .pointer (some ⟨p_, 0, none⟩) ∧ wx.heap[p_]? = some (.cells #[x_, y_, z_] 32 (0, 0)) := hd 7 (some 8) (by kernel_rfl) (by rfl)
                obtain ⟨bb, dl, cp, e42, d0, d5, c0, c2⟩ : ∃ (b_ : Bool) (dl_ cp_ : Int), (σ 42) = .agg #[.bool b_, .int .i64 dl_, .int .i64 cp_] ∧ 0 ≤ dl_ ∧ dl_ ≤ 5 ∧ 0 ≤ cp_ ∧ cp_ ≤ 2 := hd 1 (some 42) (by kernel_rfl) (by rfl)
                simp only [List.getElem_toArray, List.getElem_cons_zero, List.getElem_cons_succ, Act.put, List.setIfInBounds_toArray, List.set_cons_zero, List.set_cons_succ, e8, e42] at hK ⊢
                obtain ⟨y0, y1, y2⟩ := c3 K8
                obtain ⟨f0, f1, f2⟩ := f3 K8
                go_simp
                have n4 : b4 ≠ p8 := fun e => by have h := hw.1.wire; rw [e, K8] at h; simp at h
                have n5 : b5 ≠ p8 := fun e => by have h := hw.2.1.wire; rw [e, K8] at h; simp at h
                have n6 : b6 ≠ p8 := fun e => by have h := hw.2.2.1.wire; rw [e, K8] at h; simp at h
                exact hK.out undef _ ⟨⟨own_ty3 hw.1.own K8 (by decide) _ _ _, st_far3 hw.1.wire n4 _ _ _, hw.1.hB⟩, ⟨own_ty3 hw.2.1.own K8 (by decide) _ _ _, st_far3 hw.2.1.wire n5 _ _ _, hw.2.1.hB⟩, ⟨own_ty3 hw.2.2.1.own K8 (by decide) _ _ _, st_far3 hw.2.2.1.wire n6 _ _ _, hw.2.2.1.hB⟩, left_st H.out hw.2.2.2 (by rw [← hN.out]; exact h8) _ _ _⟩ (StepR.at8 ⟨p8, x8, y8, z8, _, _, _, K8, st3all K8 _ _ _, st3_grown _ _ _ _ _⟩) (⟨p8, bb, dl, cp, h8, e8, st3all K8 _ _ _, d0, d5, c0, c2⟩)
              refine InvS.Steps.go (by decide) (by rfl) (fun σ wx hw hd K hK => ?_) ?_
              · obtain ⟨q, e47⟩ : ∃ q_ : Nat, (σ 47) = .string (ms q_) := hd 6 (some 47) (by kernel_rfl) (by rfl)
                simp only [List.getElem_toArray, List.getElem_cons_zero, List.getElem_cons_succ, Act.put, List.setIfInBounds_toArray, List.set_cons_zero, List.set_cons_succ, e47] at hK ⊢
                go_simp
                exact hK.out _ _ hw (StepR.other (by decide) (World.grownBy.refl _ _)) (⟨q, by rfl⟩)
              exact InvS.Steps.nil
            · intro σ wx hw hd
              obtain ⟨b8, bb, dl, cp, h8, e8, F8, d0, d5, c0, c2⟩ : ∃ (p_ : Nat) (b_ : Bool) (dl_ cp_ : Int), N ≤ p_ ∧ (σ 8) = .pointer (some ⟨p_, 0, none⟩) ∧ wx.heap[p_]? = some (.cells #[.bool b_, .int .i64 dl_, .int .i64 cp_] 32 (0, 0)) ∧ 0 ≤ dl_ ∧ dl_ ≤ 5 ∧ 0 ≤ cp_ ∧ cp_ ≤ 2 := hd 8 (by decide) (by rfl)
              obtain ⟨q, e9⟩ : ∃ q_ : Nat, (σ 9) = .string (ms q_) := hd 9 (by decide) (by rfl)
              refine Inv.done (by kernel_rfl) (NoPanic.normal ?_)
              obtain ⟨A4, A5, A6, L0⟩ := hw
              rw [e8, e9]
              clear hd
              have hn1 := N0.out.n1
              have hl1 := N0.out.l1
              obtain ⟨cq, dq, hms, hcd⟩ := ms_form q
              rw [hms]
              replace hms := Lib.hid hms
              replace A4 := Lib.hid A4
              replace A5 := Lib.hid A5
              replace A6 := Lib.hid A6
              replace L0 := Lib.hid L0
              replace F8 := Lib.hid F8
              clear e8 e9
              obtain ⟨nq, hnq, hnq3⟩ : ∃ n : Nat, (n : Int) = (if bb then 0 else 1 + cp) ∧ n ≤ 3 := by
                cases bb
                · exact ⟨(1 + cp).toNat, by simp; omega, by omega⟩
                · exact ⟨0, by simp, by omega⟩
              have n84 : b8 ≠ b4 := fun e => by have h := A4.out.wire; rw [← e, F8.out] at h; simp at h
              have n85 : b8 ≠ b5 := fun e => by have h := A5.out.wire; rw [← e, F8.out] at h; simp at h
              have n86 : b8 ≠ b6 := fun e => by have h := A6.out.wire; rw [← e, F8.out] at h; simp at h
              obtain ⟨k0, k1, k2⟩ := A4.out.cells
              obtain ⟨l0, l1, l2⟩ := c3 F8.out
              have SE := Lib.hid fun w' (r : Value) (L : List T3) (o : Int) (G : Lnk.Good (j : Int) o L) (ho : o ≤ j) (hl : L.length ≤ 3 * j) (I : Its N w' r L) => send_any (j : Int) o dl cp ⟨#[cq, dq]⟩ bb nq hnq G I d0 (by omega) c0 (by omega) (by show 2 ≤ 4096; omega) (by omega) (by omega) (by omega)
              have S1 := Lib.hid (SE.out _ _ _ _ N0.out.g1 hn1.1 hl1.1 (its_of_own A4.out.own))
              obtain ⟨ra, rm, rc, rfl, hrm⟩ := own_letter A4.out.own
              obtain ⟨ra2, rm2, rc2, rfl, hrm2⟩ := own_letter A5.out.own
              obtain ⟨ra3, rm3, rc3, rfl, hrm3⟩ := own_letter A6.out.own
              replace hnq := Lib.hid hnq
              clear hrm hrm2 hrm3
              go_wp2_with fail
              refine S1.out.mono ?_
              rintro e w7 ⟨⟨r7, rfl, o7⟩, hb7⟩
              have zz := L0.out.far.size
              replace o7 := own_mono o7 (B' := N) (by have := hN.out; omega)
              replace A4 := Lib.hid (A4.out.below hb7)
              replace A5 := Lib.hid (A5.out.below hb7)
              replace A6 := Lib.hid (A6.out.below hb7)
              replace L0 := Lib.hid (L0.out.below hb7)
              replace F8 := Lib.hid (hb hb7 F8.out)
              clear hb7 k0 k1 k2 l0 l1 l2 S1
              obtain ⟨r7a, r7m, r7c, rfl, h7⟩ := own_letter o7
              replace o7 := Lib.hid o7
              clear h7
              have X0 := Lib.hid (heap_alloc_new w7 (.cells #[.int .i64 (j : Int), .int .i64 (o1 + 1), .slice r7a r7m r7c] 29))
              have Y8 : Hid (Below w7.heap.size w7 (w7.alloc (.cells #[.int .i64 (j : Int), .int .i64 (o1 + 1), .slice r7a r7m r7c] 29))) := Lib.hid (new_block _)
              have zN : N ≤ w7.heap.size := by have := L0.out.far.size; have := hN.out; omega
              have lt4 := (Array.getElem?_eq_some_iff.1 A4.out.wire).1
              have lt5 := (Array.getElem?_eq_some_iff.1 A5.out.wire).1
              have lt6 := (Array.getElem?_eq_some_iff.1 A6.out.wire).1
              replace o7 := Lib.hid (own_below o7.out Y8.out)
              replace A4 := Lib.hid (A4.out.below Y8.out)
              replace A5 := Lib.hid (A5.out.below Y8.out)
              replace A6 := Lib.hid (A6.out.below Y8.out)
              replace L0 := Lib.hid (L0.out.below Y8.out)
              replace F8 := Lib.hid (hb Y8.out F8.out)
              go_upto_region 11 with fail
              clear Y8
              generalize w7.alloc (.cells #[.int .i64 (j : Int), .int .i64 (o1 + 1), .slice r7a r7m r7c] 29) = w8 at *
              generalize w7.heap.size = bx at *
              have xlt := (Array.getElem?_eq_some_iff.1 X0.out).1
              go_cut [12, 13] from 35 to 160 (fun v12 v13 wx => ∃ b12 b13 : Nat, b12 ≠ b13 ∧ w8.heap.size ≤ b12 ∧ w8.heap.size ≤ b13 ∧ v12 = .pointer (some ⟨b12, 0, none⟩) ∧ v13 = .pointer (some ⟨b13, 0, none⟩) ∧ Hid (wx.heap[b12]? = some (.cells #[.int .i64 (j : Int), .int .i64 o2, .slice ra2 rm2 rc2] 29 (0, 0))) ∧ Hid (wx.heap[b13]? = some (.cells #[.int .i64 (j : Int), .int .i64 o3, .slice ra3 rm3 rc3] 29 (0, 0))) ∧ Hid (Below w8.heap.size w8 wx))
              case first =>
                obtain ⟨y0, y1, y2⟩ := A5.out.cells
                obtain ⟨u0, u1, u2'⟩ := A6.out.cells
                have ne1 := World.new_ne w8 _ y0
                have ne2 := World.new_ne w8 _ u0
                go_region_held3 (fun w' => w'.cell? ⟨b5, 0, none⟩ = some (.int .i64 (j : Int)) ∧ w'.cell? ⟨b5, 1, none⟩ = some (.int .i64 o2) ∧ w'.cell? ⟨b5, 2, none⟩ = some (.slice ra2 rm2 rc2) ∧ w'.cell? ⟨b6, 0, none⟩ = some (.int .i64 (j : Int)) ∧ w'.cell? ⟨b6, 1, none⟩ = some (.int .i64 o3) ∧ w'.cell? ⟨b6, 2, none⟩ = some (.slice ra3 rm3 rc3)) (go_keep) (fail)
                all_goals go_wp2_with fail
                all_goals go_meet
                · exact ⟨w8.heap.size, w8.heap.size + 1, by omega, by omega, by omega, rfl, rfl, Lib.hid ((heap_alloc_old _ _ (by simp only [World.size_alloc]; omega)).trans (heap_alloc_new w8 _)), Lib.hid (by have h := heap_alloc_new (w8.alloc (.cells #[.int .i64 (j : Int), .int .i64 o2, .slice ra2 rm2 rc2] 29)) (.cells #[.int .i64 (j : Int), .int .i64 o3, .slice ra3 rm3 rc3] 29); rw [World.size_alloc] at h; exact h), Lib.hid (Below.drew (Buf.then_ (new_block _) (new_block _)))⟩
                · exact ⟨w8.heap.size + 1, w8.heap.size, by omega, by omega, by omega, rfl, rfl, Lib.hid (by have h := heap_alloc_new (w8.alloc (.cells #[.int .i64 (j : Int), .int .i64 o3, .slice ra3 rm3 rc3] 29)) (.cells #[.int .i64 (j : Int), .int .i64 o2, .slice ra2 rm2 rc2] 29); rw [World.size_alloc] at h; exact h), Lib.hid ((heap_alloc_old _ _ (by simp only [World.size_alloc]; omega)).trans (heap_alloc_new w8 _)), Lib.hid (Below.drew (Buf.then_ (new_block _) (new_block _)))⟩
              case rest =>
              obtain ⟨b12, b13, h1213, h12, h13, rfl, rfl, K12, K13, Y1⟩ := hcut
              replace o7 := Lib.hid (own_below o7.out Y1.out)
              replace A4 := Lib.hid (A4.out.below Y1.out)
              replace A5 := Lib.hid (A5.out.below Y1.out)
              replace A6 := Lib.hid (A6.out.below Y1.out)
              replace L0 := Lib.hid (L0.out.below Y1.out)
              replace F8 := Lib.hid (hb Y1.out F8.out)
              replace X0 := Lib.hid (hb Y1.out X0.out)
              clear Y1
              have hNb4 := A4.out.hB
              have hNb5 := A5.out.hB
              have hNb6 := A6.out.hB
              have lt4' : b4 < bx := by omega
              have lt5' : b5 < bx := by omega
              have lt6' : b6 < bx := by omega
              have e124 : b12 ≠ b4 := by omega
              have e125 : b12 ≠ b5 := by omega
              have e126 : b12 ≠ b6 := by omega
              have e134 : b13 ≠ b4 := by omega
              have e135 : b13 ≠ b5 := by omega
              have e136 : b13 ≠ b6 := by omega
              have ex4 : bx ≠ b4 := by omega
              have ex5 : bx ≠ b5 := by omega
              have ex6 : bx ≠ b6 := by omega
              have ex12 : bx ≠ b12 := by omega
              have ex13 : bx ≠ b13 := by omega
              obtain ⟨l0, l1, l2⟩ := c3 F8.out
              rcases hcd with rfl | rfl
              · obtain ⟨k0, k1, k2⟩ := A5.out.cells
                go_wp2_with fail
                refine (SE.out _ _ _ _ N0.out.g2 hn1.2.1 hl1.2.1 (its_of_own A5.out.own)).mono ?_
                rintro e w9 ⟨⟨r9, rfl, o9⟩, hb9⟩
                have zz9 := L0.out.far.size
                replace o9 := own_mono o9 (B' := N) (by have := hN.out; omega)
                replace o7 := Lib.hid (own_below o7.out hb9)
                replace A4 := Lib.hid (A4.out.below hb9)
                replace A5 := Lib.hid (A5.out.below hb9)
                replace A6 := Lib.hid (A6.out.below hb9)
                replace L0 := Lib.hid (L0.out.below hb9)
                replace X0 := Lib.hid (hb hb9 X0.out)
                replace K12 := Lib.hid (hb hb9 K12.out)
                replace K13 := Lib.hid (hb hb9 K13.out)
                clear hb9 k0 k1 k2 l0 l1 l2 F8
                obtain ⟨r9a, r9m, r9c, rfl, h9⟩ := own_letter o9
                replace o9 := Lib.hid o9
                clear h9
                obtain ⟨k0, k1, k2⟩ := c3 K12.out
                obtain ⟨f0, f1, f2⟩ := f3 K12.out
                go_upto_region 16 with fail
                have P12 := Lib.hid (st3all K12.out (.int .i64 (j : Int)) (.int .i64 (o2 + 1)) (.slice r9a r9m r9c))
                have P13 := Lib.hid (st_far3 K13.out h1213.symm (.int .i64 (j : Int)) (.int .i64 (o2 + 1)) (.slice r9a r9m r9c))
                have PX := Lib.hid (st_far3 X0.out ex12 (.int .i64 (j : Int)) (.int .i64 (o2 + 1)) (.slice r9a r9m r9c))
                have P9 := Lib.hid (own_ty3 o9.out K12.out (by decide) (.int .i64 (j : Int)) (.int .i64 (o2 + 1)) (.slice r9a r9m r9c))
                have P7 := Lib.hid (own_ty3 o7.out K12.out (by decide) (.int .i64 (j : Int)) (.int .i64 (o2 + 1)) (.slice r9a r9m r9c))
                have PA4 := Lib.hid (A4.out.far K12.out e124.symm (.int .i64 (j : Int)) (.int .i64 (o2 + 1)) (.slice r9a r9m r9c))
                have PA5 := Lib.hid (A5.out.far K12.out e125.symm (.int .i64 (j : Int)) (.int .i64 (o2 + 1)) (.slice r9a r9m r9c))
                have PA6 := Lib.hid (A6.out.far K12.out e126.symm (.int .i64 (j : Int)) (.int .i64 (o2 + 1)) (.slice r9a r9m r9c))
                have PL := Lib.hid (left_st H.out L0.out (show w2.heap.size ≤ b12 by have := hN.out; omega) (.int .i64 (j : Int)) (.int .i64 (o2 + 1)) (.slice r9a r9m r9c))
                clear k0 k1 k2 f0 f1 f2 o9 o7 A4 A5 A6 L0 X0 K12 K13
                generalize ((w9.setCell ⟨b12, 0, none⟩ (.int .i64 (j : Int))).setCell ⟨b12, 1, none⟩ (.int .i64 (o2 + 1))).setCell ⟨b12, 2, none⟩ (.slice r9a r9m r9c) = wA at *
                have hfin := Lib.hid (N0.out.sendA (by omega) (d := dq) d0 d5 nq hnq3)
                go_upto_region 18 with fail
                refine wp_region_noPanic ?_
                refine wp_region_any (by kernel_rfl) ?_
                refine InvS.wpAny_inv (fun k => false) [80, 81, 82] (fun w' => w'.heap[bx]? = some (.cells #[.int .i64 (j : Int), .int .i64 (o1 + 1), .slice r7a r7m r7c] 29 (0, 0)) ∧ w'.heap[b12]? = some (.cells #[.int .i64 (j : Int), .int .i64 (o2 + 1), .slice r9a r9m r9c] 29 (0, 0)) ∧ w'.heap[b13]? = some (.cells #[.int .i64 (j : Int), .int .i64 o3, .slice ra3 rm3 rc3] 29 (0, 0)) ∧ Sh b4 w' ∧ Sh b5 w' ∧ Sh b6 w' ∧ OwnT w' N (.slice r7a r7m r7c) (insN ((j : Int) + 1 + dl) o1 ⟨#[97, dq]⟩ L1 nq) ∧ OwnT w' N (.slice r9a r9m r9c) (insN ((j : Int) + 1 + dl) o2 ⟨#[97, dq]⟩ L2 nq) ∧ OwnT w' N (.slice ra3 rm3 rc3) L3 ∧ Dice.Left w1 w2 w' w1.heap.size a0 len0 cap0 z0) (fun k w1_ w2_ => w1_.grownBy w2_ (blk3 b4 b5 b6 k)) (fun k => ([fun s_ w_ => (s_ 80) = .agg #[.int .i64 (j : Int), .int .i64 (o1 + 1), .slice r7a r7m r7c], fun s_ w_ => (s_ 81) = .agg #[.int .i64 (j : Int), .int .i64 (o2 + 1), .slice r9a r9m r9c], fun s_ w_ => (s_ 82) = .agg #[.int .i64 (j : Int), .int .i64 o3, .slice ra3 rm3 rc3], fun s_ w_ => w_.heap[b4]? = some (.cells #[.int .i64 (j : Int), .int .i64 (o1 + 1), .slice r7a r7m r7c] 29 (0, 0)), fun s_ w_ => w_.heap[b5]? = some (.cells #[.int .i64 (j : Int), .int .i64 (o2 + 1), .slice r9a r9m r9c] 29 (0, 0)), fun s_ w_ => w_.heap[b6]? = some (.cells #[.int .i64 (j : Int), .int .i64 o3, .slice ra3 rm3 rc3] 29 (0, 0))] : List ((Nat → Value) → World → Prop)).getD k (fun _ _ => True)) _ (fun σ => by simp only [Inv.putAll, List.foldl_cons, List.foldl_nil, Act.put, List.setIfInBounds_toArray, List.set_cons_zero, List.set_cons_succ]; rfl) (by kernel_rfl) (by kernel_rfl) ?_ ⟨hb ((Below.refl _ _).drew) PX.out, hb ((Below.refl _ _).drew) P12.out, hb ((Below.refl _ _).drew) P13.out, (PA4.out.below ((Below.refl _ _).drew)).sh, (PA5.out.below ((Below.refl _ _).drew)).sh, (PA6.out.below ((Below.refl _ _).drew)).sh, (own_below (P7.out) ((Below.refl _ _).drew)), (own_below (P9.out) ((Below.refl _ _).drew)), (own_below (PA6.out.own) ((Below.refl _ _).drew)), PL.out.below ((Below.refl _ _).drew)⟩ ?_ ?_ 0 #[true, true, true, true, true, true] (by kernel_rfl) (by kernel_rfl) ?_
                · intro j k oj σ v w1 w2 hoj hlj hjk hdp hv hr
                  rcases k with _ | k
                  · have hS : oj.dst ≠ some 80 := by
                      clear hv hr
                      rcases j with _ | j
                      · first | exact absurd rfl hjk | exact absurd hdp (by decide +kernel) | (simp only [List.getElem?_toArray, List.getElem?_cons_zero, List.getElem?_cons_succ, Option.some.injEq] at hoj; subst hoj; decide)
                      rcases j with _ | j
                      · first | exact absurd rfl hjk | exact absurd hdp (by decide +kernel) | (simp only [List.getElem?_toArray, List.getElem?_cons_zero, List.getElem?_cons_succ, Option.some.injEq] at hoj; subst hoj; decide)
                      rcases j with _ | j
                      · first | exact absurd rfl hjk | exact absurd hdp (by decide +kernel) | (simp only [List.getElem?_toArray, List.getElem?_cons_zero, List.getElem?_cons_succ, Option.some.injEq] at hoj; subst hoj; decide)
                      rcases j with _ | j
                      · first | exact absurd rfl hjk | exact absurd hdp (by decide +kernel) | (simp only [List.getElem?_toArray, List.getElem?_cons_zero, List.getElem?_cons_succ, Option.some.injEq] at hoj; subst hoj; decide)
                      rcases j with _ | j
                      · first | exact absurd rfl hjk | exact absurd hdp (by decide +kernel) | (simp only [List.getElem?_toArray, List.getElem?_cons_zero, List.getElem?_cons_succ, Option.some.injEq] at hoj; subst hoj; decide)
                      rcases j with _ | j
                      · first | exact absurd rfl hjk | exact absurd hdp (by decide +kernel) | (simp only [List.getElem?_toArray, List.getElem?_cons_zero, List.getElem?_cons_succ, Option.some.injEq] at hoj; subst hoj; decide)
                      · exact absurd (Array.getElem?_eq_some_iff.1 hoj).1 (by simp)
                    simp only [List.getD_cons_zero, List.getD_cons_succ, InvS.updo_ne hS] at hv ⊢
                    exact hv
                  rcases k with _ | k
                  · have hS : oj.dst ≠ some 81 := by
                      clear hv hr
                      rcases j with _ | j
                      · first | exact absurd rfl hjk | exact absurd hdp (by decide +kernel) | (simp only [List.getElem?_toArray, List.getElem?_cons_zero, List.getElem?_cons_succ, Option.some.injEq] at hoj; subst hoj; decide)
                      rcases j with _ | j
                      · first | exact absurd rfl hjk | exact absurd hdp (by decide +kernel) | (simp only [List.getElem?_toArray, List.getElem?_cons_zero, List.getElem?_cons_succ, Option.some.injEq] at hoj; subst hoj; decide)
                      rcases j with _ | j
                      · first | exact absurd rfl hjk | exact absurd hdp (by decide +kernel) | (simp only [List.getElem?_toArray, List.getElem?_cons_zero, List.getElem?_cons_succ, Option.some.injEq] at hoj; subst hoj; decide)
                      rcases j with _ | j
                      · first | exact absurd rfl hjk | exact absurd hdp (by decide +kernel) | (simp only [List.getElem?_toArray, List.getElem?_cons_zero, List.getElem?_cons_succ, Option.some.injEq] at hoj; subst hoj; decide)
                      rcases j with _ | j
                      · first | exact absurd rfl hjk | exact absurd hdp (by decide +kernel) | (simp only [List.getElem?_toArray, List.getElem?_cons_zero, List.getElem?_cons_succ, Option.some.injEq] at hoj; subst hoj; decide)
                      rcases j with _ | j
                      · first | exact absurd rfl hjk | exact absurd hdp (by decide +kernel) | (simp only [List.getElem?_toArray, List.getElem?_cons_zero, List.getElem?_cons_succ, Option.some.injEq] at hoj; subst hoj; decide)
                      · exact absurd (Array.getElem?_eq_some_iff.1 hoj).1 (by simp)
                    simp only [List.getD_cons_zero, List.getD_cons_succ, InvS.updo_ne hS] at hv ⊢
                    exact hv
                  rcases k with _ | k
                  · have hS : oj.dst ≠ some 82 := by
                      clear hv hr
                      rcases j with _ | j
                      · first | exact absurd rfl hjk | exact absurd hdp (by decide +kernel) | (simp only [List.getElem?_toArray, List.getElem?_cons_zero, List.getElem?_cons_succ, Option.some.injEq] at hoj; subst hoj; decide)
                      rcases j with _ | j
                      · first | exact absurd rfl hjk | exact absurd hdp (by decide +kernel) | (simp only [List.getElem?_toArray, List.getElem?_cons_zero, List.getElem?_cons_succ, Option.some.injEq] at hoj; subst hoj; decide)
                      rcases j with _ | j
                      · first | exact absurd rfl hjk | exact absurd hdp (by decide +kernel) | (simp only [List.getElem?_toArray, List.getElem?_cons_zero, List.getElem?_cons_succ, Option.some.injEq] at hoj; subst hoj; decide)
                      rcases j with _ | j
                      · first | exact absurd rfl hjk | exact absurd hdp (by decide +kernel) | (simp only [List.getElem?_toArray, List.getElem?_cons_zero, List.getElem?_cons_succ, Option.some.injEq] at hoj; subst hoj; decide)
                      rcases j with _ | j
                      · first | exact absurd rfl hjk | exact absurd hdp (by decide +kernel) | (simp only [List.getElem?_toArray, List.getElem?_cons_zero, List.getElem?_cons_succ, Option.some.injEq] at hoj; subst hoj; decide)
                      rcases j with _ | j
                      · first | exact absurd rfl hjk | exact absurd hdp (by decide +kernel) | (simp only [List.getElem?_toArray, List.getElem?_cons_zero, List.getElem?_cons_succ, Option.some.injEq] at hoj; subst hoj; decide)
                      · exact absurd (Array.getElem?_eq_some_iff.1 hoj).1 (by simp)
                    simp only [List.getD_cons_zero, List.getD_cons_succ, InvS.updo_ne hS] at hv ⊢
                    exact hv
                  rcases k with _ | k
                  · skip
                    exact (hr.block b4 (Array.getElem?_eq_some_iff.1 hv).1 (blk3_4 hjk h45 h46)).trans hv
                  rcases k with _ | k
                  · skip
                    exact (hr.block b5 (Array.getElem?_eq_some_iff.1 hv).1 (blk3_5 hjk h45 h56)).trans hv
                  rcases k with _ | k
                  · skip
                    exact (hr.block b6 (Array.getElem?_eq_some_iff.1 hv).1 (blk3_6 hjk h46 h56)).trans hv
                  · exact trivial
                · intro k hl
                  rcases k with _ | k
                  · exact absurd hl (by decide +kernel)
                  rcases k with _ | k
                  · exact absurd hl (by decide +kernel)
                  rcases k with _ | k
                  · exact absurd hl (by decide +kernel)
                  rcases k with _ | k
                  · exact absurd hl (by decide +kernel)
                  rcases k with _ | k
                  · exact absurd hl (by decide +kernel)
                  rcases k with _ | k
                  · exact absurd hl (by decide +kernel)
                  · exact trivial
                · show InvS.Steps _ _ _ _ _ _ _ _ [0, 1, 2, 3, 4, 5]
                  refine InvS.Steps.go (by decide) (by rfl) (fun σ wx hw hd K hK => ?_) ?_
                  · simp only [List.getElem_toArray, List.getElem_cons_zero, List.getElem_cons_succ, Act.put, List.setIfInBounds_toArray, List.set_cons_zero, List.set_cons_succ] at hK ⊢
                    obtain ⟨y0, y1, y2⟩ := c3 hw.1
                    go_simp
                    exact hK.out _ _ hw (World.grownBy.refl _ _) (by rfl)
                  refine InvS.Steps.go (by decide) (by rfl) (fun σ wx hw hd K hK => ?_) ?_
                  · simp only [List.getElem_toArray, List.getElem_cons_zero, List.getElem_cons_succ, Act.put, List.setIfInBounds_toArray, List.set_cons_zero, List.set_cons_succ] at hK ⊢
                    obtain ⟨y0, y1, y2⟩ := c3 hw.2.1
                    go_simp
                    exact hK.out _ _ hw (World.grownBy.refl _ _) (by rfl)
                  refine InvS.Steps.go (by decide) (by rfl) (fun σ wx hw hd K hK => ?_) ?_
                  · simp only [List.getElem_toArray, List.getElem_cons_zero, List.getElem_cons_succ, Act.put, List.setIfInBounds_toArray, List.set_cons_zero, List.set_cons_succ] at hK ⊢
                    obtain ⟨y0, y1, y2⟩ := c3 hw.2.2.1
                    go_simp
                    exact hK.out _ _ hw (World.grownBy.refl _ _) (by rfl)
                  refine InvS.Steps.go (by decide) (by rfl) (fun σ wx hw hd K hK => ?_) ?_
                  · obtain e80 : (σ 80) = .agg #[.int .i64 (j : Int), .int .i64 (o1 + 1), .slice r7a r7m r7c] := hd 0 (some 80) (by kernel_rfl) (by rfl)
                    simp only [List.getElem_toArray, List.getElem_cons_zero, List.getElem_cons_succ, Act.put, List.setIfInBounds_toArray, List.set_cons_zero, List.set_cons_succ, e80] at hK ⊢
                    obtain ⟨x_, y_, z_, hsh⟩ := hw.2.2.2.1
                    obtain ⟨y0, y1, y2⟩ := c3 hsh
                    obtain ⟨f0, f1, f2⟩ := f3 hsh
                    go_simp
                    exact hK.out undef _ ⟨st_far3 hw.1 ex4 _ _ _, st_far3 hw.2.1 e124 _ _ _, st_far3 hw.2.2.1 e134 _ _ _, Sh.st hw.2.2.2.1 hw.2.2.2.1 _ _ _, Sh.st hw.2.2.2.2.1 hw.2.2.2.1 _ _ _, Sh.st hw.2.2.2.2.2.1 hw.2.2.2.1 _ _ _, own_ty3 hw.2.2.2.2.2.2.1 hsh (by decide) _ _ _, own_ty3 hw.2.2.2.2.2.2.2.1 hsh (by decide) _ _ _, own_ty3 hw.2.2.2.2.2.2.2.2.1 hsh (by decide) _ _ _, left_st H.out hw.2.2.2.2.2.2.2.2.2 (by rw [← hN.out]; exact hNb4) _ _ _⟩ (st3_grown _ _ _ _ _) (st3all hsh _ _ _)
                  refine InvS.Steps.go (by decide) (by rfl) (fun σ wx hw hd K hK => ?_) ?_
                  · obtain e81 : (σ 81) = .agg #[.int .i64 (j : Int), .int .i64 (o2 + 1), .slice r9a r9m r9c] := hd 1 (some 81) (by kernel_rfl) (by rfl)
                    simp only [List.getElem_toArray, List.getElem_cons_zero, List.getElem_cons_succ, Act.put, List.setIfInBounds_toArray, List.set_cons_zero, List.set_cons_succ, e81] at hK ⊢
                    obtain ⟨x_, y_, z_, hsh⟩ := hw.2.2.2.2.1
                    obtain ⟨y0, y1, y2⟩ := c3 hsh
                    obtain ⟨f0, f1, f2⟩ := f3 hsh
                    go_simp
                    exact hK.out undef _ ⟨st_far3 hw.1 ex5 _ _ _, st_far3 hw.2.1 e125 _ _ _, st_far3 hw.2.2.1 e135 _ _ _, Sh.st hw.2.2.2.1 hw.2.2.2.2.1 _ _ _, Sh.st hw.2.2.2.2.1 hw.2.2.2.2.1 _ _ _, Sh.st hw.2.2.2.2.2.1 hw.2.2.2.2.1 _ _ _, own_ty3 hw.2.2.2.2.2.2.1 hsh (by decide) _ _ _, own_ty3 hw.2.2.2.2.2.2.2.1 hsh (by decide) _ _ _, own_ty3 hw.2.2.2.2.2.2.2.2.1 hsh (by decide) _ _ _, left_st H.out hw.2.2.2.2.2.2.2.2.2 (by rw [← hN.out]; exact hNb5) _ _ _⟩ (st3_grown _ _ _ _ _) (st3all hsh _ _ _)
                  refine InvS.Steps.go (by decide) (by rfl) (fun σ wx hw hd K hK => ?_) ?_
                  · obtain e82 : (σ 82) = .agg #[.int .i64 (j : Int), .int .i64 o3, .slice ra3 rm3 rc3] := hd 2 (some 82) (by kernel_rfl) (by rfl)
                    simp only [List.getElem_toArray, List.getElem_cons_zero, List.getElem_cons_succ, Act.put, List.setIfInBounds_toArray, List.set_cons_zero, List.set_cons_succ, e82] at hK ⊢
                    obtain ⟨x_, y_, z_, hsh⟩ := hw.2.2.2.2.2.1
                    obtain ⟨y0, y1, y2⟩ := c3 hsh
                    obtain ⟨f0, f1, f2⟩ := f3 hsh
                    go_simp
                    exact hK.out undef _ ⟨st_far3 hw.1 ex6 _ _ _, st_far3 hw.2.1 e126 _ _ _, st_far3 hw.2.2.1 e136 _ _ _, Sh.st hw.2.2.2.1 hw.2.2.2.2.2.1 _ _ _, Sh.st hw.2.2.2.2.1 hw.2.2.2.2.2.1 _ _ _, Sh.st hw.2.2.2.2.2.1 hw.2.2.2.2.2.1 _ _ _, own_ty3 hw.2.2.2.2.2.2.1 hsh (by decide) _ _ _, own_ty3 hw.2.2.2.2.2.2.2.1 hsh (by decide) _ _ _, own_ty3 hw.2.2.2.2.2.2.2.2.1 hsh (by decide) _ _ _, left_st H.out hw.2.2.2.2.2.2.2.2.2 (by rw [← hN.out]; exact hNb6) _ _ _⟩ (st3_grown _ _ _ _ _) (st3all hsh _ _ _)
                  exact InvS.Steps.nil
                · intro σ wx hw hd
                  obtain F0 : wx.heap[b4]? = some (.cells #[.int .i64 (j : Int), .int .i64 (o1 + 1), .slice r7a r7m r7c] 29 (0, 0)) := hd 3 (by decide) (by rfl)
                  obtain F1 : wx.heap[b5]? = some (.cells #[.int .i64 (j : Int), .int .i64 (o2 + 1), .slice r9a r9m r9c] 29 (0, 0)) := hd 4 (by decide) (by rfl)
                  obtain F2 : wx.heap[b6]? = some (.cells #[.int .i64 (j : Int), .int .i64 o3, .slice ra3 rm3 rc3] 29 (0, 0)) := hd 5 (by decide) (by rfl)
                  refine Inv.done (by kernel_rfl) (NoPanic.normal ?_)
                  obtain ⟨_, _, _, _, _, _, q1, q2, q3, qL⟩ := hw
                  go_wp2_with fail
                  go_meet
                  exact ⟨_, _, _, _, _, _, _, _, _, Lib.hid ⟨q1, F0, hNb4⟩, Lib.hid ⟨q2, F1, hNb5⟩, Lib.hid ⟨q3, F2, hNb6⟩, Lib.hid qL, hfin⟩
              · obtain ⟨k0, k1, k2⟩ := A6.out.cells
                go_wp2_with fail
                refine (SE.out _ _ _ _ N0.out.g3 hn1.2.2 hl1.2.2 (its_of_own A6.out.own)).mono ?_
                rintro e w9 ⟨⟨r9, rfl, o9⟩, hb9⟩
                have zz9 := L0.out.far.size
                replace o9 := own_mono o9 (B' := N) (by have := hN.out; omega)
                replace o7 := Lib.hid (own_below o7.out hb9)
                replace A4 := Lib.hid (A4.out.below hb9)
                replace A5 := Lib.hid (A5.out.below hb9)
                replace A6 := Lib.hid (A6.out.below hb9)
                replace L0 := Lib.hid (L0.out.below hb9)
                replace X0 := Lib.hid (hb hb9 X0.out)
                replace K12 := Lib.hid (hb hb9 K12.out)
                replace K13 := Lib.hid (hb hb9 K13.out)
                clear hb9 k0 k1 k2 l0 l1 l2 F8
                obtain ⟨r9a, r9m, r9c, rfl, h9⟩ := own_letter o9
                replace o9 := Lib.hid o9
                clear h9
                obtain ⟨k0, k1, k2⟩ := c3 K13.out
                obtain ⟨f0, f1, f2⟩ := f3 K13.out
                go_upto_region 16 with fail
                have P13 := Lib.hid (st3all K13.out (.int .i64 (j : Int)) (.int .i64 (o3 + 1)) (.slice r9a r9m r9c))
                have P12 := Lib.hid (st_far3 K12.out h1213 (.int .i64 (j : Int)) (.int .i64 (o3 + 1)) (.slice r9a r9m r9c))
                have PX := Lib.hid (st_far3 X0.out ex13 (.int .i64 (j : Int)) (.int .i64 (o3 + 1)) (.slice r9a r9m r9c))
                have P9 := Lib.hid (own_ty3 o9.out K13.out (by decide) (.int .i64 (j : Int)) (.int .i64 (o3 + 1)) (.slice r9a r9m r9c))
                have P7 := Lib.hid (own_ty3 o7.out K13.out (by decide) (.int .i64 (j : Int)) (.int .i64 (o3 + 1)) (.slice r9a r9m r9c))
                have PA4 := Lib.hid (A4.out.far K13.out e134.symm (.int .i64 (j : Int)) (.int .i64 (o3 + 1)) (.slice r9a r9m r9c))
                have PA5 := Lib.hid (A5.out.far K13.out e135.symm (.int .i64 (j : Int)) (.int .i64 (o3 + 1)) (.slice r9a r9m r9c))
                have PA6 := Lib.hid (A6.out.far K13.out e136.symm (.int .i64 (j : Int)) (.int .i64 (o3 + 1)) (.slice r9a r9m r9c))
                have PL := Lib.hid (left_st H.out L0.out (show w2.heap.size ≤ b13 by have := hN.out; omega) (.int .i64 (j : Int)) (.int .i64 (o3 + 1)) (.slice r9a r9m r9c))
                clear k0 k1 k2 f0 f1 f2 o9 o7 A4 A5 A6 L0 X0 K12 K13
                generalize ((w9.setCell ⟨b13, 0, none⟩ (.int .i64 (j : Int))).setCell ⟨b13, 1, none⟩ (.int .i64 (o3 + 1))).setCell ⟨b13, 2, none⟩ (.slice r9a r9m r9c) = wA at *
                have hfin := Lib.hid (N0.out.sendB (by omega) (d := dq) d0 d5 nq hnq3)
                go_upto_region 18 with fail
                refine wp_region_noPanic ?_
                refine wp_region_any (by kernel_rfl) ?_
                refine InvS.wpAny_inv (fun k => false) [80, 81, 82] (fun w' => w'.heap[bx]? = some (.cells #[.int .i64 (j : Int), .int .i64 (o1 + 1), .slice r7a r7m r7c] 29 (0, 0)) ∧ w'.heap[b12]? = some (.cells #[.int .i64 (j : Int), .int .i64 o2, .slice ra2 rm2 rc2] 29 (0, 0)) ∧ w'.heap[b13]? = some (.cells #[.int .i64 (j : Int), .int .i64 (o3 + 1), .slice r9a r9m r9c] 29 (0, 0)) ∧ Sh b4 w' ∧ Sh b5 w' ∧ Sh b6 w' ∧ OwnT w' N (.slice r7a r7m r7c) (insN ((j : Int) + 1 + dl) o1 ⟨#[98, dq]⟩ L1 nq) ∧ OwnT w' N (.slice ra2 rm2 rc2) L2 ∧ OwnT w' N (.slice r9a r9m r9c) (insN ((j : Int) + 1 + dl) o3 ⟨#[98, dq]⟩ L3 nq) ∧ Dice.Left w1 w2 w' w1.heap.size a0 len0 cap0 z0) (fun k w1_ w2_ => w1_.grownBy w2_ (blk3 b4 b5 b6 k)) (fun k => ([fun s_ w_ => (s_ 80) = .agg #[.int .i64 (j : Int), .int .i64 (o1 + 1), .slice r7a r7m r7c], fun s_ w_ => (s_ 81) = .agg #[.int .i64 (j : Int), .int .i64 o2, .slice ra2 rm2 rc2], fun s_ w_ => (s_ 82) = .agg #[.int .i64 (j : Int), .int .i64 (o3 + 1), .slice r9a r9m r9c], fun s_ w_ => w_.heap[b4]? = some (.cells #[.int .i64 (j : Int), .int .i64 (o1 + 1), .slice r7a r7m r7c] 29 (0, 0)), fun s_ w_ => w_.heap[b5]? = some (.cells #[.int .i64 (j : Int), .int .i64 o2, .slice ra2 rm2 rc2] 29 (0, 0)), fun s_ w_ => w_.heap[b6]? = some (.cells #[.int .i64 (j : Int), .int .i64 (o3 + 1), .slice r9a r9m r9c] 29 (0, 0))] : List ((Nat → Value) → World → Prop)).getD k (fun _ _ => True)) _ (fun σ => by simp only [Inv.putAll, List.foldl_cons, List.foldl_nil, Act.put, List.setIfInBounds_toArray, List.set_cons_zero, List.set_cons_succ]; rfl) (by kernel_rfl) (by kernel_rfl) ?_ ⟨hb ((Below.refl _ _).drew) PX.out, hb ((Below.refl _ _).drew) P12.out, hb ((Below.refl _ _).drew) P13.out, (PA4.out.below ((Below.refl _ _).drew)).sh, (PA5.out.below ((Below.refl _ _).drew)).sh, (PA6.out.below ((Below.refl _ _).drew)).sh, (own_below (P7.out) ((Below.refl _ _).drew)), (own_below (PA5.out.own) ((Below.refl _ _).drew)), (own_below (P9.out) ((Below.refl _ _).drew)), PL.out.below ((Below.refl _ _).drew)⟩ ?_ ?_ 0 #[true, true, true, true, true, true] (by kernel_rfl) (by kernel_rfl) ?_
                · intro j k oj σ v w1 w2 hoj hlj hjk hdp hv hr
                  rcases k with _ | k
                  · have hS : oj.dst ≠ some 80 := by
                      clear hv hr
                      rcases j with _ | j
                      · first | exact absurd rfl hjk | exact absurd hdp (by decide +kernel) | (simp only [List.getElem?_toArray, List.getElem?_cons_zero, List.getElem?_cons_succ, Option.some.injEq] at hoj; subst hoj; decide)
                      rcases j with _ | j
                      · first | exact absurd rfl hjk | exact absurd hdp (by decide +kernel) | (simp only [List.getElem?_toArray, List.getElem?_cons_zero, List.getElem?_cons_succ, Option.some.injEq] at hoj; subst hoj; decide)
                      rcases j with _ | j
                      · first | exact absurd rfl hjk | exact absurd hdp (by decide +kernel) | (simp only [List.getElem?_toArray, List.getElem?_cons_zero, List.getElem?_cons_succ, Option.some.injEq] at hoj; subst hoj; decide)
                      rcases j with _ | j
                      · first | exact absurd rfl hjk | exact absurd hdp (by decide +kernel) | (simp only [List.getElem?_toArray, List.getElem?_cons_zero, List.getElem?_cons_succ, Option.some.injEq] at hoj; subst hoj; decide)
                      rcases j with _ | j
                      · first | exact absurd rfl hjk | exact absurd hdp (by decide +kernel) | (simp only [List.getElem?_toArray, List.getElem?_cons_zero, List.getElem?_cons_succ, Option.some.injEq] at hoj; subst hoj; decide)
                      rcases j with _ | j
                      · first | exact absurd rfl hjk | exact absurd hdp (by decide +kernel) | (simp only [List.getElem?_toArray, List.getElem?_cons_zero, List.getElem?_cons_succ, Option.some.injEq] at hoj; subst hoj; decide)
                      · exact absurd (Array.getElem?_eq_some_iff.1 hoj).1 (by simp)
                    simp only [List.getD_cons_zero, List.getD_cons_succ, InvS.updo_ne hS] at hv ⊢
                    exact hv
                  rcases k with _ | k
                  · have hS : oj.dst ≠ some 81 := by
                      clear hv hr
                      rcases j with _ | j
                      · first | exact absurd rfl hjk | exact absurd hdp (by decide +kernel) | (simp only [List.getElem?_toArray, List.getElem?_cons_zero, List.getElem?_cons_succ, Option.some.injEq] at hoj; subst hoj; decide)
                      rcases j with _ | j
                      · first | exact absurd rfl hjk | exact absurd hdp (by decide +kernel) | (simp only [List.getElem?_toArray, List.getElem?_cons_zero, List.getElem?_cons_succ, Option.some.injEq] at hoj; subst hoj; decide)
                      rcases j with _ | j
                      · first | exact absurd rfl hjk | exact absurd hdp (by decide +kernel) | (simp only [List.getElem?_toArray, List.getElem?_cons_zero, List.getElem?_cons_succ, Option.some.injEq] at hoj; subst hoj; decide)
                      rcases j with _ | j
                      · first | exact absurd rfl hjk | exact absurd hdp (by decide +kernel) | (simp only [List.getElem?_toArray, List.getElem?_cons_zero, List.getElem?_cons_succ, Option.some.injEq] at hoj; subst hoj; decide)
                      rcases j with _ | j
                      · first | exact absurd rfl hjk | exact absurd hdp (by decide +kernel) | (simp only [List.getElem?_toArray, List.getElem?_cons_zero, List.getElem?_cons_succ, Option.some.injEq] at hoj; subst hoj; decide)
                      rcases j with _ | j
                      · first | exact absurd rfl hjk | exact absurd hdp (by decide +kernel) | (simp only [List.getElem?_toArray, List.getElem?_cons_zero, List.getElem?_cons_succ, Option.some.injEq] at hoj; subst hoj; decide)
                      · exact absurd (Array.getElem?_eq_some_iff.1 hoj).1 (by simp)
                    simp only [List.getD_cons_zero, List.getD_cons_succ, InvS.updo_ne hS] at hv ⊢
                    exact hv
                  rcases k with _ | k
                  · have hS : oj.dst ≠ some 82 := by
                      clear hv hr
                      rcases j with _ | j
                      · first | exact absurd rfl hjk | exact absurd hdp (by decide +kernel) | (simp only [List.getElem?_toArray, List.getElem?_cons_zero, List.getElem?_cons_succ, Option.some.injEq] at hoj; subst hoj; decide)
                      rcases j with _ | j
                      · first | exact absurd rfl hjk | exact absurd hdp (by decide +kernel) | (simp only [List.getElem?_toArray, List.getElem?_cons_zero, List.getElem?_cons_succ, Option.some.injEq] at hoj; subst hoj; decide)
                      rcases j with _ | j
                      · first | exact absurd rfl hjk | exact absurd hdp (by decide +kernel) | (simp only [List.getElem?_toArray, List.getElem?_cons_zero, List.getElem?_cons_succ, Option.some.injEq] at hoj; subst hoj; decide)
                      rcases j with _ | j
                      · first | exact absurd rfl hjk | exact absurd hdp (by decide +kernel) | (simp only [List.getElem?_toArray, List.getElem?_cons_zero, List.getElem?_cons_succ, Option.some.injEq] at hoj; subst hoj; decide)
                      rcases j with _ | j
                      · first | exact absurd rfl hjk | exact absurd hdp (by decide +kernel) | (simp only [List.getElem?_toArray, List.getElem?_cons_zero, List.getElem?_cons_succ, Option.some.injEq] at hoj; subst hoj; decide)
                      rcases j with _ | j
                      · first | exact absurd rfl hjk | exact absurd hdp (by decide +kernel) | (simp only [List.getElem?_toArray, List.getElem?_cons_zero, List.getElem?_cons_succ, Option.some.injEq] at hoj; subst hoj; decide)
                      · exact absurd (Array.getElem?_eq_some_iff.1 hoj).1 (by simp)
                    simp only [List.getD_cons_zero, List.getD_cons_succ, InvS.updo_ne hS] at hv ⊢
                    exact hv
                  rcases k with _ | k
                  · skip
                    exact (hr.block b4 (Array.getElem?_eq_some_iff.1 hv).1 (blk3_4 hjk h45 h46)).trans hv
                  rcases k with _ | k
                  · skip
                    exact (hr.block b5 (Array.getElem?_eq_some_iff.1 hv).1 (blk3_5 hjk h45 h56)).trans hv
                  rcases k with _ | k
                  · skip
                    exact (hr.block b6 (Array.getElem?_eq_some_iff.1 hv).1 (blk3_6 hjk h46 h56)).trans hv
                  · exact trivial
                · intro k hl
                  rcases k with _ | k
                  · exact absurd hl (by decide +kernel)
                  rcases k with _ | k
                  · exact absurd hl (by decide +kernel)
                  rcases k with _ | k
                  · exact absurd hl (by decide +kernel)
                  rcases k with _ | k
                  · exact absurd hl (by decide +kernel)
                  rcases k with _ | k
                  · exact absurd hl (by decide +kernel)
                  rcases k with _ | k
                  · exact absurd hl (by decide +kernel)
                  · exact trivial
                · show InvS.Steps _ _ _ _ _ _ _ _ [0, 1, 2, 3, 4, 5]
                  refine InvS.Steps.go (by decide) (by rfl) (fun σ wx hw hd K hK => ?_) ?_
                  · simp only [List.getElem_toArray, List.getElem_cons_zero, List.getElem_cons_succ, Act.put, List.setIfInBounds_toArray, List.set_cons_zero, List.set_cons_succ] at hK ⊢
                    obtain ⟨y0, y1, y2⟩ := c3 hw.1
                    go_simp
                    exact hK.out _ _ hw (World.grownBy.refl _ _) (by rfl)
                  refine InvS.Steps.go (by decide) (by rfl) (fun σ wx hw hd K hK => ?_) ?_
                  · simp only [List.getElem_toArray, List.getElem_cons_zero, List.getElem_cons_succ, Act.put, List.setIfInBounds_toArray, List.set_cons_zero, List.set_cons_succ] at hK ⊢
                    obtain ⟨y0, y1, y2⟩ := c3 hw.2.1
                    go_simp
                    exact hK.out _ _ hw (World.grownBy.refl _ _) (by rfl)
                  refine InvS.Steps.go (by decide) (by rfl) (fun σ wx hw hd K hK => ?_) ?_
                  · simp only [List.getElem_toArray, List.getElem_cons_zero, List.getElem_cons_succ, Act.put, List.setIfInBounds_toArray, List.set_cons_zero, List.set_cons_succ] at hK ⊢
                    obtain ⟨y0, y1, y2⟩ := c3 hw.2.2.1
                    go_simp
                    exact hK.out _ _ hw (World.grownBy.refl _ _) (by rfl)
                  refine InvS.Steps.go (by decide) (by rfl) (fun σ wx hw hd K hK => ?_) ?_
                  · obtain e80 : (σ 80) = .agg #[.int .i64 (j : Int), .int .i64 (o1 + 1), .slice r7a r7m r7c] := hd 0 (some 80) (by kernel_rfl) (by rfl)
                    simp only [List.getElem_toArray, List.getElem_cons_zero, List.getElem_cons_succ, Act.put, List.setIfInBounds_toArray, List.set_cons_zero, List.set_cons_succ, e80] at hK ⊢
                    obtain ⟨x_, y_, z_, hsh⟩ := hw.2.2.2.1
                    obtain ⟨y0, y1, y2⟩ := c3 hsh
                    obtain ⟨f0, f1, f2⟩ := f3 hsh
                    go_simp
                    exact hK.out undef _ ⟨st_far3 hw.1 ex4 _ _ _, st_far3 hw.2.1 e124 _ _ _, st_far3 hw.2.2.1 e134 _ _ _, Sh.st hw.2.2.2.1 hw.2.2.2.1 _ _ _, Sh.st hw.2.2.2.2.1 hw.2.2.2.1 _ _ _, Sh.st hw.2.2.2.2.2.1 hw.2.2.2.1 _ _ _, own_ty3 hw.2.2.2.2.2.2.1 hsh (by decide) _ _ _, own_ty3 hw.2.2.2.2.2.2.2.1 hsh (by decide) _ _ _, own_ty3 hw.2.2.2.2.2.2.2.2.1 hsh (by decide) _ _ _, left_st H.out hw.2.2.2.2.2.2.2.2.2 (by rw [← hN.out]; exact hNb4) _ _ _⟩ (st3_grown _ _ _ _ _) (st3all hsh _ _ _)
                  refine InvS.Steps.go (by decide) (by rfl) (fun σ wx hw hd K hK => ?_) ?_
                  · obtain e81 : (σ 81) = .agg #[.int .i64 (j : Int), .int .i64 o2, .slice ra2 rm2 rc2] := hd 1 (some 81) (by kernel_rfl) (by rfl)
                    simp only [List.getElem_toArray, List.getElem_cons_zero, List.getElem_cons_succ, Act.put, List.setIfInBounds_toArray, List.set_cons_zero, List.set_cons_succ, e81] at hK ⊢
                    obtain ⟨x_, y_, z_, hsh⟩ := hw.2.2.2.2.1
                    obtain ⟨y0, y1, y2⟩ := c3 hsh
                    obtain ⟨f0, f1, f2⟩ := f3 hsh
                    go_simp
                    exact hK.out undef _ ⟨st_far3 hw.1 ex5 _ _ _, st_far3 hw.2.1 e125 _ _ _, st_far3 hw.2.2.1 e135 _ _ _, Sh.st hw.2.2.2.1 hw.2.2.2.2.1 _ _ _, Sh.st hw.2.2.2.2.1 hw.2.2.2.2.1 _ _ _, Sh.st hw.2.2.2.2.2.1 hw.2.2.2.2.1 _ _ _, own_ty3 hw.2.2.2.2.2.2.1 hsh (by decide) _ _ _, own_ty3 hw.2.2.2.2.2.2.2.1 hsh (by decide) _ _ _, own_ty3 hw.2.2.2.2.2.2.2.2.1 hsh (by decide) _ _ _, left_st H.out hw.2.2.2.2.2.2.2.2.2 (by rw [← hN.out]; exact hNb5) _ _ _⟩ (st3_grown _ _ _ _ _) (st3all hsh _ _ _)
                  refine InvS.Steps.go (by decide) (by rfl) (fun σ wx hw hd K hK => ?_) ?_
                  · obtain e82 : (σ 82) = .agg #[.int .i64 (j : Int), .int .i64 (o3 + 1), .slice r9a r9m r9c] := hd 2 (some 82) (by kernel_rfl) (by rfl)
                    simp only [List.getElem_toArray, List.getElem_cons_zero, List.getElem_cons_succ, Act.put, List.setIfInBounds_toArray, List.set_cons_zero, List.set_cons_succ, e82] at hK ⊢
                    obtain ⟨x_, y_, z_, hsh⟩ := hw.2.2.2.2.2.1
                    obtain ⟨y0, y1, y2⟩ := c3 hsh
                    obtain ⟨f0, f1, f2⟩ := f3 hsh
                    go_simp
                    exact hK.out undef _ ⟨st_far3 hw.1 ex6 _ _ _, st_far3 hw.2.1 e126 _ _ _, st_far3 hw.2.2.1 e136 _ _ _, Sh.st hw.2.2.2.1 hw.2.2.2.2.2.1 _ _ _, Sh.st hw.2.2.2.2.1 hw.2.2.2.2.2.1 _ _ _, Sh.st hw.2.2.2.2.2.1 hw.2.2.2.2.2.1 _ _ _, own_ty3 hw.2.2.2.2.2.2.1 hsh (by decide) _ _ _, own_ty3 hw.2.2.2.2.2.2.2.1 hsh (by decide) _ _ _, own_ty3 hw.2.2.2.2.2.2.2.2.1 hsh (by decide) _ _ _, left_st H.out hw.2.2.2.2.2.2.2.2.2 (by rw [← hN.out]; exact hNb6) _ _ _⟩ (st3_grown _ _ _ _ _) (st3all hsh _ _ _)
                  exact InvS.Steps.nil
                · intro σ wx hw hd
                  obtain F0 : wx.heap[b4]? = some (.cells #[.int .i64 (j : Int), .int .i64 (o1 + 1), .slice r7a r7m r7c] 29 (0, 0)) := hd 3 (by decide) (by rfl)
                  obtain F1 : wx.heap[b5]? = some (.cells #[.int .i64 (j : Int), .int .i64 o2, .slice ra2 rm2 rc2] 29 (0, 0)) := hd 4 (by decide) (by rfl)
                  obtain F2 : wx.heap[b6]? = some (.cells #[.int .i64 (j : Int), .int .i64 (o3 + 1), .slice r9a r9m r9c] 29 (0, 0)) := hd 5 (by decide) (by rfl)
                  refine Inv.done (by kernel_rfl) (NoPanic.normal ?_)
                  obtain ⟨_, _, _, _, _, _, q1, q2, q3, qL⟩ := hw
                  go_wp2_with fail
                  go_meet
                  exact ⟨_, _, _, _, _, _, _, _, _, Lib.hid ⟨q1, F0, hNb4⟩, Lib.hid ⟨q2, F1, hNb5⟩, Lib.hid ⟨q3, F2, hNb6⟩, Lib.hid qL, hfin⟩

          · have hdj : decide (j < 9) = false := decide_eq_false hj9
            rw [hdj]
            go_wp2_with fail
            go_meet
            exact ⟨o1, o2, o3, _, _, _, L1, L2, L3, A4, A5, A6, L0, Lib.hid N0.out.stay⟩
        case rest =>
          clear A4 A5 A6 L0 N0
          obtain ⟨o1, o2, o3, r1, r2, r3, L1, L2, L3, A4, A5, A6, L0, M0⟩ := hcut
          have hn1 := M0.out.n1
          have hl1 := M0.out.l1
          have TK := Lib.hid fun w' (r : Value) (L : List T3) (o : Int) (G : Lnk.Good (j : Int) o L) (hl : L.length ≤ 3 * j + 3) (I : Its N w' r L) => tick_any (j : Int) o G I (by omega) (by omega)
          obtain ⟨ra1, rm1, rc1, rfl, hrm1⟩ := own_letter A4.out.own
          obtain ⟨ra2, rm2, rc2, rfl, hrm2⟩ := own_letter A5.out.own
          obtain ⟨ra3, rm3, rc3, rfl, hrm3⟩ := own_letter A6.out.own
          clear hrm1 hrm2 hrm3
          have hNb4 := A4.out.hB
          have hNb5 := A5.out.hB
          have hNb6 := A6.out.hB
          obtain ⟨k0, k1, k2⟩ := A4.out.cells
          go_wp2_with fail
          refine (TK.out _ _ _ _ M0.out.g1 hl1.1 (its_of_own A4.out.own)).mono ?_
          rintro e w7 ⟨⟨r7, l7, rfl, o7, s7⟩, hb7⟩
          have zz7 := L0.out.far.size
          replace o7 := own_mono o7 (B' := N) (by have := hN.out; omega)
          have V7 := Lib.hid (vw_own s7)
          replace A4 := Lib.hid (A4.out.below hb7)
          replace A5 := Lib.hid (A5.out.below hb7)
          replace A6 := Lib.hid (A6.out.below hb7)
          replace L0 := Lib.hid (L0.out.below hb7)
          clear hb7 k0 k1 k2
          obtain ⟨r7a, r7m, r7c, rfl, h7⟩ := own_letter o7
          obtain ⟨l7a, l7m, l7c, rfl, h7_⟩ := own_letter s7
          replace o7 := Lib.hid o7
          clear h7 h7_ s7
          have X7 := Lib.hid (heap_alloc_new w7 (.cells #[.int .i64 ((j : Int) + 1), .int .i64 o1, .slice r7a r7m r7c] 29))
          have Y7 : Hid (Below w7.heap.size w7 (w7.alloc (.cells #[.int .i64 ((j : Int) + 1), .int .i64 o1, .slice r7a r7m r7c] 29))) := Lib.hid (new_block _)
          have lt7 := (Array.getElem?_eq_some_iff.1 A4.out.wire).1
          have lu7 := (Array.getElem?_eq_some_iff.1 A5.out.wire).1
          have lv7 := (Array.getElem?_eq_some_iff.1 A6.out.wire).1
          have zN7 : N ≤ w7.heap.size := by have := L0.out.far.size; have := hN.out; omega
          replace o7 := Lib.hid (own_below o7.out Y7.out)
          replace A4 := Lib.hid (A4.out.below Y7.out)
          replace A5 := Lib.hid (A5.out.below Y7.out)
          replace A6 := Lib.hid (A6.out.below Y7.out)
          replace L0 := Lib.hid (L0.out.below Y7.out)
          replace V7 := Lib.hid (V7.out.below Y7.out)
          go_upto_region 20 with fail
          clear Y7
          generalize w7.alloc (.cells #[.int .i64 ((j : Int) + 1), .int .i64 o1, .slice r7a r7m r7c] 29) = wA at *
          generalize w7.heap.size = x7 at *
          have W7 : Hid (WB N x7 ((j : Int) + 1) o1 (.slice r7a r7m r7c) (L1.drop (Lnk.due ((j : Int) + 1) L1)) wA) := Lib.hid ⟨o7.out, X7.out, zN7⟩
          have ltx7 := (Array.getElem?_eq_some_iff.1 X7.out).1
          clear X7 o7
          obtain ⟨k0, k1, k2⟩ := A5.out.cells
          go_wp2_with fail
          refine (TK.out _ _ _ _ M0.out.g2 hl1.2.1 (its_of_own A5.out.own)).mono ?_
          rintro e w8 ⟨⟨r8, l8, rfl, o8, s8⟩, hb8⟩
          have zz8 := L0.out.far.size
          replace o8 := own_mono o8 (B' := N) (by have := hN.out; omega)
          have V8 := Lib.hid (vw_own s8)
          replace A4 := Lib.hid (A4.out.below hb8)
          replace A5 := Lib.hid (A5.out.below hb8)
          replace A6 := Lib.hid (A6.out.below hb8)
          replace L0 := Lib.hid (L0.out.below hb8)
          replace W7 := Lib.hid (W7.out.below hb8)
          replace V7 := Lib.hid (V7.out.below hb8)
          clear hb8 k0 k1 k2
          obtain ⟨r8a, r8m, r8c, rfl, h8⟩ := own_letter o8
          obtain ⟨l8a, l8m, l8c, rfl, h8_⟩ := own_letter s8
          replace o8 := Lib.hid o8
          clear h8 h8_ s8
          have X8 := Lib.hid (heap_alloc_new w8 (.cells #[.int .i64 ((j : Int) + 1), .int .i64 o2, .slice r8a r8m r8c] 29))
          have Y8 : Hid (Below w8.heap.size w8 (w8.alloc (.cells #[.int .i64 ((j : Int) + 1), .int .i64 o2, .slice r8a r8m r8c] 29))) := Lib.hid (new_block _)
          have lt8 := (Array.getElem?_eq_some_iff.1 A4.out.wire).1
          have lu8 := (Array.getElem?_eq_some_iff.1 A5.out.wire).1
          have lv8 := (Array.getElem?_eq_some_iff.1 A6.out.wire).1
          have zN8 : N ≤ w8.heap.size := by have := L0.out.far.size; have := hN.out; omega
          have lw87 := (Array.getElem?_eq_some_iff.1 W7.out.wire).1
          replace o8 := Lib.hid (own_below o8.out Y8.out)
          replace A4 := Lib.hid (A4.out.below Y8.out)
          replace A5 := Lib.hid (A5.out.below Y8.out)
          replace A6 := Lib.hid (A6.out.below Y8.out)
          replace L0 := Lib.hid (L0.out.below Y8.out)
          replace W7 := Lib.hid (W7.out.below Y8.out)
          replace V7 := Lib.hid (V7.out.below Y8.out)
          replace V8 := Lib.hid (V8.out.below Y8.out)
          go_upto_region 21 with fail
          clear Y8
          generalize w8.alloc (.cells #[.int .i64 ((j : Int) + 1), .int .i64 o2, .slice r8a r8m r8c] 29) = wB at *
          generalize w8.heap.size = x8 at *
          have W8 : Hid (WB N x8 ((j : Int) + 1) o2 (.slice r8a r8m r8c) (L2.drop (Lnk.due ((j : Int) + 1) L2)) wB) := Lib.hid ⟨o8.out, X8.out, zN8⟩
          have ltx8 := (Array.getElem?_eq_some_iff.1 X8.out).1
          clear X8 o8
          obtain ⟨k0, k1, k2⟩ := A6.out.cells
          go_wp2_with fail
          refine (TK.out _ _ _ _ M0.out.g3 hl1.2.2 (its_of_own A6.out.own)).mono ?_
          rintro e w9 ⟨⟨r9, l9, rfl, o9, s9⟩, hb9⟩
          have zz9 := L0.out.far.size
          replace o9 := own_mono o9 (B' := N) (by have := hN.out; omega)
          have V9 := Lib.hid (vw_own s9)
          replace A4 := Lib.hid (A4.out.below hb9)
          replace A5 := Lib.hid (A5.out.below hb9)
          replace A6 := Lib.hid (A6.out.below hb9)
          replace L0 := Lib.hid (L0.out.below hb9)
          replace W7 := Lib.hid (W7.out.below hb9)
          replace V7 := Lib.hid (V7.out.below hb9)
          replace W8 := Lib.hid (W8.out.below hb9)
          replace V8 := Lib.hid (V8.out.below hb9)
          clear hb9 k0 k1 k2
          obtain ⟨r9a, r9m, r9c, rfl, h9⟩ := own_letter o9
          obtain ⟨l9a, l9m, l9c, rfl, h9_⟩ := own_letter s9
          replace o9 := Lib.hid o9
          clear h9 h9_ s9
          have X9 := Lib.hid (heap_alloc_new w9 (.cells #[.int .i64 ((j : Int) + 1), .int .i64 o3, .slice r9a r9m r9c] 29))
          have Y9 : Hid (Below w9.heap.size w9 (w9.alloc (.cells #[.int .i64 ((j : Int) + 1), .int .i64 o3, .slice r9a r9m r9c] 29))) := Lib.hid (new_block _)
          have lt9 := (Array.getElem?_eq_some_iff.1 A4.out.wire).1
          have lu9 := (Array.getElem?_eq_some_iff.1 A5.out.wire).1
          have lv9 := (Array.getElem?_eq_some_iff.1 A6.out.wire).1
          have zN9 : N ≤ w9.heap.size := by have := L0.out.far.size; have := hN.out; omega
          have lw97 := (Array.getElem?_eq_some_iff.1 W7.out.wire).1
          have lw98 := (Array.getElem?_eq_some_iff.1 W8.out.wire).1
          replace o9 := Lib.hid (own_below o9.out Y9.out)
          replace A4 := Lib.hid (A4.out.below Y9.out)
          replace A5 := Lib.hid (A5.out.below Y9.out)
          replace A6 := Lib.hid (A6.out.below Y9.out)
          replace L0 := Lib.hid (L0.out.below Y9.out)
          replace W7 := Lib.hid (W7.out.below Y9.out)
          replace V7 := Lib.hid (V7.out.below Y9.out)
          replace W8 := Lib.hid (W8.out.below Y9.out)
          replace V8 := Lib.hid (V8.out.below Y9.out)
          replace V9 := Lib.hid (V9.out.below Y9.out)
          go_upto_region 22 with fail
          clear Y9
          generalize w9.alloc (.cells #[.int .i64 ((j : Int) + 1), .int .i64 o3, .slice r9a r9m r9c] 29) = wC at *
          generalize w9.heap.size = x9 at *
          have W9 : Hid (WB N x9 ((j : Int) + 1) o3 (.slice r9a r9m r9c) (L3.drop (Lnk.due ((j : Int) + 1) L3)) wC) := Lib.hid ⟨o9.out, X9.out, zN9⟩
          have ltx9 := (Array.getElem?_eq_some_iff.1 X9.out).1
          clear X9 o9
          have T := Lib.hid (M0.out.tick hj16)
          have D2 := Lib.hid (M0.out.a2.tick M0.out.g1 M0.out.g2).2
          have D3 := Lib.hid (M0.out.a3.tick M0.out.g1 M0.out.g3).2
          have TW := Lib.hid M0.out.data
          rw [D2.out] at V8
          rw [D3.out] at V9
          obtain ⟨l, hl⟩ : ∃ l, l = dat (L1.take (Lnk.due ((j : Int) + 1) L1)) := ⟨_, rfl⟩
          rw [← hl] at V7 V8 V9 TW
          replace hl := Lib.hid hl
          obtain ⟨ga, gc, egg, hg1, hg2, hg3⟩ := V7.out
          obtain ⟨n, hn⟩ : ∃ n, n = l.length := ⟨_, rfl⟩
          rw [← hn] at egg hg1
          obtain ⟨rfl, rfl, rfl⟩ : l7a = ga ∧ n = l7m ∧ l7c = gc := by injection egg with x y z; exact ⟨x, y.symm, z⟩
          clear egg D2 D3
          have hl9 : n ≤ 1000 := by rw [hn, hl.out]; simp [dat]; omega
          replace hn := Lib.hid hn
          replace hg3 := Lib.hid hg3
          obtain ⟨wz, hwz⟩ : ∃ wz : World, wz = wC := ⟨_, rfl⟩
          have V8' : Hid (Vw wC (.slice l8a l8m l8c) (fs true (l.drop 0))) := V8
          have V9' : Hid (Vw wC (.slice l9a l9m l9c) (fs false (l.drop 0))) := V9
          clear V8 V9 V7
          go_upto_region 24 with fail
          go_wp2_with fail
          go_loopw [113, 19, 22] (fun i p q wr => ∃ (k : Nat) (pa qa : Option Addr) (pm pc qm qc : Nat), k ≤ n ∧ i = .int .i64 (k : Int) ∧ p = .slice pa pm pc ∧ q = .slice qa qm qc ∧ Hid (Vw wr (.slice pa pm pc) (fs true (l.drop k))) ∧ Hid (Vw wr (.slice qa qm qc) (fs false (l.drop k))) ∧ Hid (Below wC.heap.size wC wr)) (fun i _ _ _ => n - (intOf i).toNat)
          case atStart => exact ⟨0, _, _, _, _, _, _, Nat.zero_le _, rfl, rfl, rfl, V8', V9', Lib.hid (Below.refl _ _)⟩
          case round =>
            clear V8' V9'
            obtain ⟨k, pa, qa, pm, pc, qm, qc, hk, rfl, rfl, rfl, VP, VQ, BC⟩ := hrel
            by_cases hkn : k < n
            · have hkn' : (k : Int) < n := by omega
              obtain ⟨s, hs⟩ : ∃ s, l[k]? = some s := ⟨l[k]'(by rw [← hn.out]; exact hkn), List.getElem?_eq_getElem _⟩
              obtain ⟨c, d, rfl, hcd⟩ := TW.out s (List.mem_of_getElem? hs)
              have hdr : l.drop k = ⟨#[c, d]⟩ :: l.drop (k + 1) := by
                obtain ⟨h1, h2⟩ := List.getElem?_eq_some_iff.1 hs
                rw [List.drop_eq_getElem_cons h1, h2]
              rw [hdr] at VP VQ
              obtain ⟨gb, go, ega, hgb, hgc⟩ := hg3.out (by intro e; rw [e] at hs; simp at hs)
              subst ega
              have c0 := (BC.out.cell (p := ⟨gb, go + k, none⟩) hgb).trans (hgc k _ hs)
              replace hs := Lib.hid hs
              clear hdr hgc hgb
              rcases hcd with rfl | rfl
              · rw [fs_cons_same (by rw [isA_two]; rfl)] at VP
                rw [fs_cons_other (by rw [isA_two]; decide)] at VQ
                obtain ⟨xa, xc, exx, x1, x2, x3⟩ := VP.out
                obtain ⟨xb, xo, exa, xg, xh⟩ := x3 (by simp)
                subst exa
                obtain ⟨m', hm'⟩ : ∃ m', m' = (fs true (l.drop (k + 1))).length := ⟨_, rfl⟩
                rw [List.length_cons, ← hm'] at exx x1
                obtain ⟨rfl, rfl, rfl⟩ : pa = some ⟨xb, xo, none⟩ ∧ pm = m' + 1 ∧ xc = pc := by injection exx with x y z; exact ⟨x, y, z.symm⟩
                have y0 := xh 0 _ rfl
                rw [Nat.add_zero] at y0
                have hx9 : xc ≤ 9223372036854775807 := by unfold maxLen at x2; omega
                have hm9 : m' ≤ 1000 := by
                  rw [hm']
                  have h1 : (fs true (l.drop (k + 1))).length ≤ (l.drop (k + 1)).length := List.length_filter_le ..
                  rw [List.length_drop, ← hn.out] at h1; omega
                replace hm' := Lib.hid hm'
                replace xh := Lib.hid xh
                clear x3 exx VP
                by_cases hc1 : xc = 1
                · subst hc1
                  obtain rfl : m' = 0 := by omega
                  have VN : Hid (Vw wr (.slice (some ⟨xb, xo, none⟩) 0 0) (fs true (l.drop (k + 1)))) := Lib.hid ⟨some ⟨xb, xo, none⟩, 0, by rw [← hm'.out], by rw [← hm'.out]; exact Nat.le_refl _, Nat.zero_le _, fun h => absurd (List.eq_nil_of_length_eq_zero hm'.out.symm) h⟩
                  go_wp2_with fail
                  go_roundw
                  case rel => exact ⟨k + 1, _, _, _, _, _, _, by omega, by go_num, rfl, rfl, VN, VQ, BC⟩
                  case measure => simp [intOf]; omega
                · have VN : Hid (Vw wr (.slice (some ⟨xb, xo + 1, none⟩) m' (xc - 1)) (fs true (l.drop (k + 1)))) := Lib.hid ⟨_, xc - 1, by rw [← hm'.out], by rw [← hm'.out]; omega, by omega, fun h => ⟨xb, xo + 1, rfl, xg, fun t s ht => by rw [Nat.add_assoc, Nat.add_comm 1 t]; exact xh.out (t + 1) s (by simpa using ht)⟩⟩
                  go_wp2_with fail
                  go_roundw
                  case rel => exact ⟨k + 1, _, _, _, _, _, _, by omega, by go_num, rfl, rfl, VN, VQ, BC⟩
                  case measure => simp [intOf]; omega
              · rw [fs_cons_other (by rw [isA_two]; decide)] at VP
                rw [fs_cons_same (by rw [isA_two]; decide)] at VQ
                obtain ⟨xa, xc, exx, x1, x2, x3⟩ := VQ.out
                obtain ⟨xb, xo, exa, xg, xh⟩ := x3 (by simp)
                subst exa
                obtain ⟨m', hm'⟩ : ∃ m', m' = (fs false (l.drop (k + 1))).length := ⟨_, rfl⟩
                rw [List.length_cons, ← hm'] at exx x1
                obtain ⟨rfl, rfl, rfl⟩ : qa = some ⟨xb, xo, none⟩ ∧ qm = m' + 1 ∧ xc = qc := by injection exx with x y z; exact ⟨x, y, z.symm⟩
                have y0 := xh 0 _ rfl
                rw [Nat.add_zero] at y0
                have hx9 : xc ≤ 9223372036854775807 := by unfold maxLen at x2; omega
                have hm9 : m' ≤ 1000 := by
                  rw [hm']
                  have h1 : (fs false (l.drop (k + 1))).length ≤ (l.drop (k + 1)).length := List.length_filter_le ..
                  rw [List.length_drop, ← hn.out] at h1; omega
                replace hm' := Lib.hid hm'
                replace xh := Lib.hid xh
                clear x3 exx VQ
                by_cases hc1 : xc = 1
                · subst hc1
                  obtain rfl : m' = 0 := by omega
                  have VN : Hid (Vw wr (.slice (some ⟨xb, xo, none⟩) 0 0) (fs false (l.drop (k + 1)))) := Lib.hid ⟨some ⟨xb, xo, none⟩, 0, by rw [← hm'.out], by rw [← hm'.out]; exact Nat.le_refl _, Nat.zero_le _, fun h => absurd (List.eq_nil_of_length_eq_zero hm'.out.symm) h⟩
                  go_wp2_with fail
                  go_roundw
                  case rel => exact ⟨k + 1, _, _, _, _, _, _, by omega, by go_num, rfl, rfl, VP, VN, BC⟩
                  case measure => simp [intOf]; omega
                · have VN : Hid (Vw wr (.slice (some ⟨xb, xo + 1, none⟩) m' (xc - 1)) (fs false (l.drop (k + 1)))) := Lib.hid ⟨_, xc - 1, by rw [← hm'.out], by rw [← hm'.out]; omega, by omega, fun h => ⟨xb, xo + 1, rfl, xg, fun t s ht => by rw [Nat.add_assoc, Nat.add_comm 1 t]; exact xh.out (t + 1) s (by simpa using ht)⟩⟩
                  go_wp2_with fail
                  go_roundw
                  case rel => exact ⟨k + 1, _, _, _, _, _, _, by omega, by go_num, rfl, rfl, VP, VN, BC⟩
                  case measure => simp [intOf]; omega
            · obtain rfl : n = k := by omega
              have e0 : l.drop n = [] := by rw [hn.out]; exact List.drop_length ..
              rw [e0] at VP VQ
              obtain ⟨xa, xc, exx, _, _, _⟩ := VP.out
              obtain ⟨ya, yc, eyy, _, _, _⟩ := VQ.out
              obtain ⟨rfl, rfl, rfl⟩ : pa = xa ∧ pm = 0 ∧ pc = xc := by injection exx with x y z; exact ⟨x, y, z⟩
              obtain ⟨rfl, rfl, rfl⟩ : qa = ya ∧ qm = 0 ∧ qc = yc := by injection eyy with x y z; exact ⟨x, y, z⟩
              clear e0 VP VQ exx eyy TW hg3 hl
              replace A4 := Lib.hid (A4.out.below BC.out)
              replace A5 := Lib.hid (A5.out.below BC.out)
              replace A6 := Lib.hid (A6.out.below BC.out)
              replace L0 := Lib.hid (L0.out.below BC.out)
              replace W7 := Lib.hid (W7.out.below BC.out)
              replace W8 := Lib.hid (W8.out.below BC.out)
              replace W9 := Lib.hid (W9.out.below BC.out)
              clear BC hwz
              generalize wr = wD at *
              have RV := Lib.hid (refvalid_yes _ _ (show Lnk.Good ((j : Int) + 1) o1 _ from good_tick M0.out.g1 (by omega)) (its_of_own W7.out.own))
              obtain ⟨k0, k1, k2⟩ := W7.out.cells
              go_wp2_with fail
              refine RV.out.mono ?_
              rintro e wE ⟨rfl, hbE⟩
              replace A4 := Lib.hid (A4.out.below hbE)
              replace A5 := Lib.hid (A5.out.below hbE)
              replace A6 := Lib.hid (A6.out.below hbE)
              replace L0 := Lib.hid (L0.out.below hbE)
              replace W7 := Lib.hid (W7.out.below hbE)
              replace W8 := Lib.hid (W8.out.below hbE)
              replace W9 := Lib.hid (W9.out.below hbE)
              clear hbE k0 k1 k2 RV
              have eJ : ((j + 1 : Nat) : Int) = (j : Int) + 1 := by omega
              replace eJ := Lib.hid eJ
              go_upto_region 37 with fail
              refine wp_region_noPanic ?_
              refine wp_region_any (by kernel_rfl) ?_
              refine InvS.wpAny_inv (fun k => false) [158, 159, 160] (fun w' => w'.heap[x7]? = some (.cells #[.int .i64 ((j : Int) + 1), .int .i64 o1, .slice r7a r7m r7c] 29 (0, 0)) ∧ w'.heap[x8]? = some (.cells #[.int .i64 ((j : Int) + 1), .int .i64 o2, .slice r8a r8m r8c] 29 (0, 0)) ∧ w'.heap[x9]? = some (.cells #[.int .i64 ((j : Int) + 1), .int .i64 o3, .slice r9a r9m r9c] 29 (0, 0)) ∧ Sh b4 w' ∧ Sh b5 w' ∧ Sh b6 w' ∧ OwnT w' N (.slice r7a r7m r7c) (L1.drop (Lnk.due ((j : Int) + 1) L1)) ∧ OwnT w' N (.slice r8a r8m r8c) (L2.drop (Lnk.due ((j : Int) + 1) L2)) ∧ OwnT w' N (.slice r9a r9m r9c) (L3.drop (Lnk.due ((j : Int) + 1) L3)) ∧ Dice.Left w1 w2 w' w1.heap.size a0 len0 cap0 z0) (fun k w1_ w2_ => w1_.grownBy w2_ (blk3 b4 b5 b6 k)) (fun k => ([fun s_ w_ => (s_ 158) = .agg #[.int .i64 ((j : Int) + 1), .int .i64 o1, .slice r7a r7m r7c], fun s_ w_ => (s_ 159) = .agg #[.int .i64 ((j : Int) + 1), .int .i64 o2, .slice r8a r8m r8c], fun s_ w_ => (s_ 160) = .agg #[.int .i64 ((j : Int) + 1), .int .i64 o3, .slice r9a r9m r9c], fun s_ w_ => w_.heap[b4]? = some (.cells #[.int .i64 ((j : Int) + 1), .int .i64 o1, .slice r7a r7m r7c] 29 (0, 0)), fun s_ w_ => w_.heap[b5]? = some (.cells #[.int .i64 ((j : Int) + 1), .int .i64 o2, .slice r8a r8m r8c] 29 (0, 0)), fun s_ w_ => w_.heap[b6]? = some (.cells #[.int .i64 ((j : Int) + 1), .int .i64 o3, .slice r9a r9m r9c] 29 (0, 0))] : List ((Nat → Value) → World → Prop)).getD k (fun _ _ => True)) _ (fun σ => by simp only [Inv.putAll, List.foldl_cons, List.foldl_nil, Act.put, List.setIfInBounds_toArray, List.set_cons_zero, List.set_cons_succ]; rfl) (by kernel_rfl) (by kernel_rfl) ?_ ⟨hb ((Below.refl _ _).drew) W7.out.wire, hb ((Below.refl _ _).drew) W8.out.wire, hb ((Below.refl _ _).drew) W9.out.wire, (A4.out.below ((Below.refl _ _).drew)).sh, (A5.out.below ((Below.refl _ _).drew)).sh, (A6.out.below ((Below.refl _ _).drew)).sh, (own_below W7.out.own ((Below.refl _ _).drew)), (own_below W8.out.own ((Below.refl _ _).drew)), (own_below W9.out.own ((Below.refl _ _).drew)), L0.out.below ((Below.refl _ _).drew)⟩ ?_ ?_ 0 #[true, true, true, true, true, true] (by kernel_rfl) (by kernel_rfl) ?_
              · intro j k oj σ v w1 w2 hoj hlj hjk hdp hv hr
                rcases k with _ | k
                · have hS : oj.dst ≠ some 158 := by
                    clear hv hr
                    rcases j with _ | j
                    · first | exact absurd rfl hjk | exact absurd hdp (by decide +kernel) | (simp only [List.getElem?_toArray, List.getElem?_cons_zero, List.getElem?_cons_succ, Option.some.injEq] at hoj; subst hoj; decide)
                    rcases j with _ | j
                    · first | exact absurd rfl hjk | exact absurd hdp (by decide +kernel) | (simp only [List.getElem?_toArray, List.getElem?_cons_zero, List.getElem?_cons_succ, Option.some.injEq] at hoj; subst hoj; decide)
                    rcases j with _ | j
                    · first | exact absurd rfl hjk | exact absurd hdp (by decide +kernel) | (simp only [List.getElem?_toArray, List.getElem?_cons_zero, List.getElem?_cons_succ, Option.some.injEq] at hoj; subst hoj; decide)
                    rcases j with _ | j
                    · first | exact absurd rfl hjk | exact absurd hdp (by decide +kernel) | (simp only [List.getElem?_toArray, List.getElem?_cons_zero, List.getElem?_cons_succ, Option.some.injEq] at hoj; subst hoj; decide)
                    rcases j with _ | j
                    · first | exact absurd rfl hjk | exact absurd hdp (by decide +kernel) | (simp only [List.getElem?_toArray, List.getElem?_cons_zero, List.getElem?_cons_succ, Option.some.injEq] at hoj; subst hoj; decide)
                    rcases j with _ | j
                    · first | exact absurd rfl hjk | exact absurd hdp (by decide +kernel) | (simp only [List.getElem?_toArray, List.getElem?_cons_zero, List.getElem?_cons_succ, Option.some.injEq] at hoj; subst hoj; decide)
                    · exact absurd (Array.getElem?_eq_some_iff.1 hoj).1 (by simp)
                  simp only [List.getD_cons_zero, List.getD_cons_succ, InvS.updo_ne hS] at hv ⊢
                  exact hv
                rcases k with _ | k
                · have hS : oj.dst ≠ some 159 := by
                    clear hv hr
                    rcases j with _ | j
                    · first | exact absurd rfl hjk | exact absurd hdp (by decide +kernel) | (simp only [List.getElem?_toArray, List.getElem?_cons_zero, List.getElem?_cons_succ, Option.some.injEq] at hoj; subst hoj; decide)
                    rcases j with _ | j
                    · first | exact absurd rfl hjk | exact absurd hdp (by decide +kernel) | (simp only [List.getElem?_toArray, List.getElem?_cons_zero, List.getElem?_cons_succ, Option.some.injEq] at hoj; subst hoj; decide)
                    rcases j with _ | j
                    · first | exact absurd rfl hjk | exact absurd hdp (by decide +kernel) | (simp only [List.getElem?_toArray, List.getElem?_cons_zero, List.getElem?_cons_succ, Option.some.injEq] at hoj; subst hoj; decide)
                    rcases j with _ | j
                    · first | exact absurd rfl hjk | exact absurd hdp (by decide +kernel) | (simp only [List.getElem?_toArray, List.getElem?_cons_zero, List.getElem?_cons_succ, Option.some.injEq] at hoj; subst hoj; decide)
                    rcases j with _ | j
                    · first | exact absurd rfl hjk | exact absurd hdp (by decide +kernel) | (simp only [List.getElem?_toArray, List.getElem?_cons_zero, List.getElem?_cons_succ, Option.some.injEq] at hoj; subst hoj; decide)
                    rcases j with _ | j
                    · first | exact absurd rfl hjk | exact absurd hdp (by decide +kernel) | (simp only [List.getElem?_toArray, List.getElem?_cons_zero, List.getElem?_cons_succ, Option.some.injEq] at hoj; subst hoj; decide)
                    · exact absurd (Array.getElem?_eq_some_iff.1 hoj).1 (by simp)
                  simp only [List.getD_cons_zero, List.getD_cons_succ, InvS.updo_ne hS] at hv ⊢
                  exact hv
                rcases k with _ | k
                · have hS : oj.dst ≠ some 160 := by
                    clear hv hr
                    rcases j with _ | j
                    · first | exact absurd rfl hjk | exact absurd hdp (by decide +kernel) | (simp only [List.getElem?_toArray, List.getElem?_cons_zero, List.getElem?_cons_succ, Option.some.injEq] at hoj; subst hoj; decide)
                    rcases j with _ | j
                    · first | exact absurd rfl hjk | exact absurd hdp (by decide +kernel) | (simp only [List.getElem?_toArray, List.getElem?_cons_zero, List.getElem?_cons_succ, Option.some.injEq] at hoj; subst hoj; decide)
                    rcases j with _ | j
                    · first | exact absurd rfl hjk | exact absurd hdp (by decide +kernel) | (simp only [List.getElem?_toArray, List.getElem?_cons_zero, List.getElem?_cons_succ, Option.some.injEq] at hoj; subst hoj; decide)
                    rcases j with _ | j
                    · first | exact absurd rfl hjk | exact absurd hdp (by decide +kernel) | (simp only [List.getElem?_toArray, List.getElem?_cons_zero, List.getElem?_cons_succ, Option.some.injEq] at hoj; subst hoj; decide)
                    rcases j with _ | j
                    · first | exact absurd rfl hjk | exact absurd hdp (by decide +kernel) | (simp only [List.getElem?_toArray, List.getElem?_cons_zero, List.getElem?_cons_succ, Option.some.injEq] at hoj; subst hoj; decide)
                    rcases j with _ | j
                    · first | exact absurd rfl hjk | exact absurd hdp (by decide +kernel) | (simp only [List.getElem?_toArray, List.getElem?_cons_zero, List.getElem?_cons_succ, Option.some.injEq] at hoj; subst hoj; decide)
                    · exact absurd (Array.getElem?_eq_some_iff.1 hoj).1 (by simp)
                  simp only [List.getD_cons_zero, List.getD_cons_succ, InvS.updo_ne hS] at hv ⊢
                  exact hv
                rcases k with _ | k
                · skip
                  exact (hr.block b4 (Array.getElem?_eq_some_iff.1 hv).1 (blk3_4 hjk h45 h46)).trans hv
                rcases k with _ | k
                · skip
                  exact (hr.block b5 (Array.getElem?_eq_some_iff.1 hv).1 (blk3_5 hjk h45 h56)).trans hv
                rcases k with _ | k
                · skip
                  exact (hr.block b6 (Array.getElem?_eq_some_iff.1 hv).1 (blk3_6 hjk h46 h56)).trans hv
                · exact trivial
              · intro k hl
                rcases k with _ | k
                · exact absurd hl (by decide +kernel)
                rcases k with _ | k
                · exact absurd hl (by decide +kernel)
                rcases k with _ | k
                · exact absurd hl (by decide +kernel)
                rcases k with _ | k
                · exact absurd hl (by decide +kernel)
                rcases k with _ | k
                · exact absurd hl (by decide +kernel)
                rcases k with _ | k
                · exact absurd hl (by decide +kernel)
                · exact trivial
              · show InvS.Steps _ _ _ _ _ _ _ _ [0, 1, 2, 3, 4, 5]
                refine InvS.Steps.go (by decide) (by rfl) (fun σ wx hw hd K hK => ?_) ?_
                · simp only [List.getElem_toArray, List.getElem_cons_zero, List.getElem_cons_succ, Act.put, List.setIfInBounds_toArray, List.set_cons_zero, List.set_cons_succ] at hK ⊢
                  obtain ⟨y0, y1, y2⟩ := c3 hw.1
                  go_simp
                  exact hK.out _ _ hw (World.grownBy.refl _ _) (by rfl)
                refine InvS.Steps.go (by decide) (by rfl) (fun σ wx hw hd K hK => ?_) ?_
                · simp only [List.getElem_toArray, List.getElem_cons_zero, List.getElem_cons_succ, Act.put, List.setIfInBounds_toArray, List.set_cons_zero, List.set_cons_succ] at hK ⊢
                  obtain ⟨y0, y1, y2⟩ := c3 hw.2.1
                  go_simp
                  exact hK.out _ _ hw (World.grownBy.refl _ _) (by rfl)
                refine InvS.Steps.go (by decide) (by rfl) (fun σ wx hw hd K hK => ?_) ?_
                · simp only [List.getElem_toArray, List.getElem_cons_zero, List.getElem_cons_succ, Act.put, List.setIfInBounds_toArray, List.set_cons_zero, List.set_cons_succ] at hK ⊢
                  obtain ⟨y0, y1, y2⟩ := c3 hw.2.2.1
                  go_simp
                  exact hK.out _ _ hw (World.grownBy.refl _ _) (by rfl)
                refine InvS.Steps.go (by decide) (by rfl) (fun σ wx hw hd K hK => ?_) ?_
                · obtain e158 : (σ 158) = .agg #[.int .i64 ((j : Int) + 1), .int .i64 o1, .slice r7a r7m r7c] := hd 0 (some 158) (by kernel_rfl) (by rfl)
                  simp only [List.getElem_toArray, List.getElem_cons_zero, List.getElem_cons_succ, Act.put, List.setIfInBounds_toArray, List.set_cons_zero, List.set_cons_succ, e158] at hK ⊢
                  obtain ⟨x_, y_, z_, hsh⟩ := hw.2.2.2.1
                  obtain ⟨y0, y1, y2⟩ := c3 hsh
                  obtain ⟨f0, f1, f2⟩ := f3 hsh
                  go_simp
                  exact hK.out undef _ ⟨st_far3 hw.1 (by omega) _ _ _, st_far3 hw.2.1 (by omega) _ _ _, st_far3 hw.2.2.1 (by omega) _ _ _, Sh.st hw.2.2.2.1 hw.2.2.2.1 _ _ _, Sh.st hw.2.2.2.2.1 hw.2.2.2.1 _ _ _, Sh.st hw.2.2.2.2.2.1 hw.2.2.2.1 _ _ _, own_ty3 hw.2.2.2.2.2.2.1 hsh (by decide) _ _ _, own_ty3 hw.2.2.2.2.2.2.2.1 hsh (by decide) _ _ _, own_ty3 hw.2.2.2.2.2.2.2.2.1 hsh (by decide) _ _ _, left_st H.out hw.2.2.2.2.2.2.2.2.2 (by rw [← hN.out]; exact hNb4) _ _ _⟩ (st3_grown _ _ _ _ _) (st3all hsh _ _ _)
                refine InvS.Steps.go (by decide) (by rfl) (fun σ wx hw hd K hK => ?_) ?_
                · obtain e159 : (σ 159) = .agg #[.int .i64 ((j : Int) + 1), .int .i64 o2, .slice r8a r8m r8c] := hd 1 (some 159) (by kernel_rfl) (by rfl)
                  simp only [List.getElem_toArray, List.getElem_cons_zero, List.getElem_cons_succ, Act.put, List.setIfInBounds_toArray, List.set_cons_zero, List.set_cons_succ, e159] at hK ⊢
                  obtain ⟨x_, y_, z_, hsh⟩ := hw.2.2.2.2.1
                  obtain ⟨y0, y1, y2⟩ := c3 hsh
                  obtain ⟨f0, f1, f2⟩ := f3 hsh
                  go_simp
                  exact hK.out undef _ ⟨st_far3 hw.1 (by omega) _ _ _, st_far3 hw.2.1 (by omega) _ _ _, st_far3 hw.2.2.1 (by omega) _ _ _, Sh.st hw.2.2.2.1 hw.2.2.2.2.1 _ _ _, Sh.st hw.2.2.2.2.1 hw.2.2.2.2.1 _ _ _, Sh.st hw.2.2.2.2.2.1 hw.2.2.2.2.1 _ _ _, own_ty3 hw.2.2.2.2.2.2.1 hsh (by decide) _ _ _, own_ty3 hw.2.2.2.2.2.2.2.1 hsh (by decide) _ _ _, own_ty3 hw.2.2.2.2.2.2.2.2.1 hsh (by decide) _ _ _, left_st H.out hw.2.2.2.2.2.2.2.2.2 (by rw [← hN.out]; exact hNb5) _ _ _⟩ (st3_grown _ _ _ _ _) (st3all hsh _ _ _)
                refine InvS.Steps.go (by decide) (by rfl) (fun σ wx hw hd K hK => ?_) ?_
                · obtain e160 : (σ 160) = .agg #[.int .i64 ((j : Int) + 1), .int .i64 o3, .slice r9a r9m r9c] := hd 2 (some 160) (by kernel_rfl) (by rfl)
                  simp only [List.getElem_toArray, List.getElem_cons_zero, List.getElem_cons_succ, Act.put, List.setIfInBounds_toArray, List.set_cons_zero, List.set_cons_succ, e160] at hK ⊢
                  obtain ⟨x_, y_, z_, hsh⟩ := hw.2.2.2.2.2.1
                  obtain ⟨y0, y1, y2⟩ := c3 hsh
                  obtain ⟨f0, f1, f2⟩ := f3 hsh
                  go_simp
                  exact hK.out undef _ ⟨st_far3 hw.1 (by omega) _ _ _, st_far3 hw.2.1 (by omega) _ _ _, st_far3 hw.2.2.1 (by omega) _ _ _, Sh.st hw.2.2.2.1 hw.2.2.2.2.2.1 _ _ _, Sh.st hw.2.2.2.2.1 hw.2.2.2.2.2.1 _ _ _, Sh.st hw.2.2.2.2.2.1 hw.2.2.2.2.2.1 _ _ _, own_ty3 hw.2.2.2.2.2.2.1 hsh (by decide) _ _ _, own_ty3 hw.2.2.2.2.2.2.2.1 hsh (by decide) _ _ _, own_ty3 hw.2.2.2.2.2.2.2.2.1 hsh (by decide) _ _ _, left_st H.out hw.2.2.2.2.2.2.2.2.2 (by rw [← hN.out]; exact hNb6) _ _ _⟩ (st3_grown _ _ _ _ _) (st3all hsh _ _ _)
                exact InvS.Steps.nil
              · intro σ wx hw hd
                obtain F0 : wx.heap[b4]? = some (.cells #[.int .i64 ((j : Int) + 1), .int .i64 o1, .slice r7a r7m r7c] 29 (0, 0)) := hd 3 (by decide) (by rfl)
                obtain F1 : wx.heap[b5]? = some (.cells #[.int .i64 ((j : Int) + 1), .int .i64 o2, .slice r8a r8m r8c] 29 (0, 0)) := hd 4 (by decide) (by rfl)
                obtain F2 : wx.heap[b6]? = some (.cells #[.int .i64 ((j : Int) + 1), .int .i64 o3, .slice r9a r9m r9c] 29 (0, 0)) := hd 5 (by decide) (by rfl)
                refine Inv.done (by kernel_rfl) (NoPanic.normal ?_)
                obtain ⟨_, _, _, _, _, _, q1, q2, q3, qL⟩ := hw
                rw [← eJ.out] at F0 F1 F2
                go_wp2_with fail
                go_roundw
                case rel => exact ⟨j + 1, _, _, _, _, _, _, _, _, _, by omega, by go_num, Lib.hid ⟨q1, F0, hNb4⟩, Lib.hid ⟨q2, F1, hNb5⟩, Lib.hid ⟨q3, F2, hNb6⟩, Lib.hid qL, T⟩
                case measure => simp [intOf]; omega
      · obtain rfl : j = 16 := by omega
        have BW := Lib.hid L0.out.di.bel
        clear A4 A5 A6 L0
        go_wp2_with (go_at_call 7; refine (Lnk.sane_any _).mono ?_; rintro e w9 ⟨rfl, hb9⟩)
        go_ret
        exact ⟨rfl, Buf.then_ BW.out hb9⟩
  · have hd : decide ((len0 : Int) ≤ 500) = false := by simp; omega
    go_enter Try.func3, Try.ntmps3
    go_wp2_with (first | (go_at_call 6; refine (light_any _ _ _ _).mono ?_; rintro e w1 ⟨rfl, rfl⟩; rw [hd]) | (go_at_call 7; refine (Lnk.sane_any _).mono ?_; rintro e w2 ⟨rfl, hb⟩))
    go_ret
    exact ⟨rfl, hb⟩
end Laws
end Go.Proofs.Ytjgbidnijfecoaa
