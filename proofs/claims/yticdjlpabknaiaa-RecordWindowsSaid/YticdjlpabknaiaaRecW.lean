/- Package record: firstFrom, Cut, Inside. -/
import Derived.Test.YticdjlpabknaiaaRecH
import Derived.Test.YticdjlpabknaiaaRecWM
import Derived.Test.YticdjlpabknaiaaQuiet
import Derived.Lib.MinMax
set_option linter.unusedVariables false
set_option linter.unusedSimpArgs false
namespace Go.Proofs.Yticdjlpabknaiaa
open Go.RowKit Qt
namespace Rec
open Dice
section
variable {s0 s1 s2 s3 : List UInt8} {st fi num den er ru se : Int}
set_option maxHeartbeats 4000000 in
set_option maxRecDepth 100000 in
theorem closeA (P : RP s0 s1 s2 s3 st fi num den er ru se) (b n c : Nat) (t : Int) (k x y : Nat) (hk : k ≤ 1999) (w : World) (hx : w.heap[x]? = some (.cells #[.string ⟨s0.toArray⟩, .string ⟨s1.toArray⟩, .string ⟨s2.toArray⟩, .string ⟨s3.toArray⟩, .int .i64 st, .int .i64 fi, .int .i64 num, .int .i64 den, .int .i64 er, .int .i64 ru, .int .i64 se, .slice (some ⟨b, 0, none⟩) n c] 32 (0, 0))) (hy : w.cell? ⟨y, 0, none⟩ = some (.int .i64 t)) :
    Calls Try.prog 49 #[.int .i64 (k : Int), .pointer (some ⟨x, 0, none⟩), .pointer (some ⟨y, 0, none⟩)] w fun e w' => e = .returned (.bool (decide (t ≤ tm st fi num den (k : Int)))) ∧ Below w.heap.size w w' := by
  have TT := Lib.hid fun w' => timeOf_any P b n c ((k : Int)) (by omega) (by omega) w'
  have KX : Hid (∀ w', Below w.heap.size w w' → w'.heap[x]? = some (.cells #[.string ⟨s0.toArray⟩, .string ⟨s1.toArray⟩, .string ⟨s2.toArray⟩, .string ⟨s3.toArray⟩, .int .i64 st, .int .i64 fi, .int .i64 num, .int .i64 den, .int .i64 er, .int .i64 ru, .int .i64 se, .slice (some ⟨b, 0, none⟩) n c] 32 (0, 0))) := Lib.hid fun w' h' => hb h' hx
  have CY : Hid (∀ w', Below w.heap.size w w' → w'.cell? ⟨y, 0, none⟩ = some (.int .i64 t)) := Lib.hid fun w' h' => (h'.cell (p := ⟨y, 0, none⟩) (World.block_lt_of_cell? w _ hy)).trans hy
  generalize tm st fi num den ((k : Int)) = T at *
  clear hx hy
  go_enter Try.func49, Try.ntmps49
  go_upto_region 1 with fail
  refine Buf.region_calm w (by kernel_rfl) (by kernel_rfl) (Below.refl _ _) ?_
  repeat (first
    | (go_big_quiet_want; refine quiet_row 32 (.tmp 1) rfl x rfl 32 #[.string ⟨s0.toArray⟩, .string ⟨s1.toArray⟩, .string ⟨s2.toArray⟩, .string ⟨s3.toArray⟩, .int .i64 st, .int .i64 fi, .int .i64 num, .int .i64 den, .int .i64 er, .int .i64 ru, .int .i64 se, .slice (some ⟨b, 0, none⟩) n c] (0, 0) _ (fun _ hC => KX.out _ hC) rfl rfl rfl ?_; go_big_quiet_on; try simp only [Act.put, List.setIfInBounds_toArray, List.set_cons_zero, List.set_cons_succ])
    | go_big_quiet_step ((intro hC; first
       | (go_at_call 33; (with_reducible exact Buf.calm hC (TT.out _)))
       | (simp only [CY.out _ hC, Result.andThen_ok]; exact ⟨trivial, rfl⟩)
       | rfl)))
  refine wpQuiet_nil ?_
  intro w5 b5
  go_wp2_with fail
  go_ret
  exact ⟨rfl, b5⟩
set_option maxHeartbeats 4000000 in
set_option maxRecDepth 100000 in
theorem closeB (P : RP s0 s1 s2 s3 st fi num den er ru se) (b n c : Nat) (t : Int) (k x y : Nat) (hk : k ≤ 1999) (w : World) (hx : w.heap[x]? = some (.cells #[.string ⟨s0.toArray⟩, .string ⟨s1.toArray⟩, .string ⟨s2.toArray⟩, .string ⟨s3.toArray⟩, .int .i64 st, .int .i64 fi, .int .i64 num, .int .i64 den, .int .i64 er, .int .i64 ru, .int .i64 se, .slice (some ⟨b, 0, none⟩) n c] 32 (0, 0))) (hy : w.cell? ⟨y, 0, none⟩ = some (.int .i64 t)) :
    Calls Try.prog 32 #[.int .i64 (k : Int), .pointer (some ⟨x, 0, none⟩), .pointer (some ⟨y, 0, none⟩)] w fun e w' => e = .returned (.bool (decide (t < tm st fi num den ((k : Int) + 1)))) ∧ Below w.heap.size w w' := by
  have TT := Lib.hid fun w' => timeOf_any P b n c ((k : Int) + 1) (by omega) (by omega) w'
  have KX : Hid (∀ w', Below w.heap.size w w' → w'.heap[x]? = some (.cells #[.string ⟨s0.toArray⟩, .string ⟨s1.toArray⟩, .string ⟨s2.toArray⟩, .string ⟨s3.toArray⟩, .int .i64 st, .int .i64 fi, .int .i64 num, .int .i64 den, .int .i64 er, .int .i64 ru, .int .i64 se, .slice (some ⟨b, 0, none⟩) n c] 32 (0, 0))) := Lib.hid fun w' h' => hb h' hx
  have CY : Hid (∀ w', Below w.heap.size w w' → w'.cell? ⟨y, 0, none⟩ = some (.int .i64 t)) := Lib.hid fun w' h' => (h'.cell (p := ⟨y, 0, none⟩) (World.block_lt_of_cell? w _ hy)).trans hy
  generalize tm st fi num den ((k : Int) + 1) = T at *
  clear hx hy
  go_enter Try.func32, Try.ntmps32
  go_upto_region 1 with fail
  refine Buf.region_calm w (by kernel_rfl) (by kernel_rfl) (Below.refl _ _) ?_
  repeat (first
    | (go_big_quiet_want; refine quiet_row 32 (.tmp 1) rfl x rfl 32 #[.string ⟨s0.toArray⟩, .string ⟨s1.toArray⟩, .string ⟨s2.toArray⟩, .string ⟨s3.toArray⟩, .int .i64 st, .int .i64 fi, .int .i64 num, .int .i64 den, .int .i64 er, .int .i64 ru, .int .i64 se, .slice (some ⟨b, 0, none⟩) n c] (0, 0) _ (fun _ hC => KX.out _ hC) rfl rfl rfl ?_; go_big_quiet_on; try simp only [Act.put, List.setIfInBounds_toArray, List.set_cons_zero, List.set_cons_succ])
    | go_big_quiet_step ((intro hC; first
       | (go_at_call 33; (with_reducible exact Buf.calm hC (TT.out _)))
       | (simp only [CY.out _ hC, Result.andThen_ok]; exact ⟨trivial, rfl⟩)
       | rfl)))
  refine wpQuiet_nil ?_
  intro w5 b5
  go_wp2_with fail
  go_ret
  exact ⟨rfl, b5⟩
end
set_option maxHeartbeats 2000000 in
/-- A binary search for the number r with a function that says from r on true. -/
theorem searchA (n r : Nat) (x y : Addr) (w : World) (hr : r ≤ n) (hn : n ≤ 2000)
    (H : Hid (∀ (k : Nat) (w' : World), Below w.heap.size w w' → k < n → Calls Try.prog 49 #[.int .i64 (k : Int), .pointer (some x), .pointer (some y)] w' fun e w'' => e = .returned (.bool (decide (r ≤ k))) ∧ Below w'.heap.size w' w'')) :
    Calls Try.prog 31 #[.int .i64 (n : Int), .func (.func 49) #[] #[.pointer (some x), .pointer (some y)]] w fun e w' => e = .returned (.int .i64 (r : Int)) ∧ Below w.heap.size w w' := by
  go_enter Try.func31, Try.ntmps31
  go_wp2_with fail
  go_loopw [5, 6] (fun i j wr => ∃ a b : Nat, i = .int .i64 a ∧ j = .int .i64 b ∧ a ≤ r ∧ r ≤ b ∧ b ≤ n ∧ Hid (Below w.heap.size w wr)) (fun i j _ => (intOf j - intOf i).toNat)
  case atStart => exact ⟨0, n, rfl, rfl, by omega, hr, by omega, Lib.hid (Below.refl _ _)⟩
  case round =>
    obtain ⟨a, b, rfl, rfl, h1, h2, h3, hq⟩ := hrel
    by_cases hlt : a < b
    · have e2 : Hid (((a : Int) + b) / 2 = (((a + b) / 2 : Nat) : Int)) := Lib.hid (by omega)
      have hm := H.out ((a + b) / 2) wr hq.out (by omega)
      by_cases hqq : r ≤ (a + b) / 2
      · rw [decide_eq_true hqq] at hm
        replace hm := Lib.hid hm
        go_wp2_with fail
        have hm' := hm.out
        rw [← e2.out] at hm'
        refine hm'.mono ?_
        clear hm'
        rintro e w' ⟨rfl, hc⟩
        have he := Lib.hid (Buf.then_ hq.out hc)
        go_wp2
        go_roundw
        case rel => exact ⟨a, (a + b) / 2, rfl, by simp only [e2.out], h1, hqq, by omega, he⟩
        case measure => simp [intOf]; omega
      · rw [decide_eq_false hqq] at hm
        replace hm := Lib.hid hm
        go_wp2_with fail
        have hm' := hm.out
        rw [← e2.out] at hm'
        refine hm'.mono ?_
        clear hm'
        rintro e w' ⟨rfl, hc⟩
        have he := Lib.hid (Buf.then_ hq.out hc)
        go_wp2
        go_roundw
        case rel => exact ⟨(a + b) / 2 + 1, b, congrArg (Value.int .i64) (by omega), rfl, by omega, h2, h3, he⟩
        case measure => simp [intOf]; omega
    · obtain rfl : a = b := by omega
      obtain rfl : a = r := by omega
      go_wp2
      go_ret
      exact ⟨rfl, hq.out⟩
set_option maxHeartbeats 2000000 in
/-- A binary search for the number r with a function that says from r on true. -/
theorem searchB (n r : Nat) (x y : Addr) (w : World) (hr : r ≤ n) (hn : n ≤ 2000)
    (H : Hid (∀ (k : Nat) (w' : World), Below w.heap.size w w' → k < n → Calls Try.prog 32 #[.int .i64 (k : Int), .pointer (some x), .pointer (some y)] w' fun e w'' => e = .returned (.bool (decide (r ≤ k))) ∧ Below w'.heap.size w' w'')) :
    Calls Try.prog 31 #[.int .i64 (n : Int), .func (.func 32) #[] #[.pointer (some x), .pointer (some y)]] w fun e w' => e = .returned (.int .i64 (r : Int)) ∧ Below w.heap.size w w' := by
  go_enter Try.func31, Try.ntmps31
  go_wp2_with fail
  go_loopw [5, 6] (fun i j wr => ∃ a b : Nat, i = .int .i64 a ∧ j = .int .i64 b ∧ a ≤ r ∧ r ≤ b ∧ b ≤ n ∧ Hid (Below w.heap.size w wr)) (fun i j _ => (intOf j - intOf i).toNat)
  case atStart => exact ⟨0, n, rfl, rfl, by omega, hr, by omega, Lib.hid (Below.refl _ _)⟩
  case round =>
    obtain ⟨a, b, rfl, rfl, h1, h2, h3, hq⟩ := hrel
    by_cases hlt : a < b
    · have e2 : Hid (((a : Int) + b) / 2 = (((a + b) / 2 : Nat) : Int)) := Lib.hid (by omega)
      have hm := H.out ((a + b) / 2) wr hq.out (by omega)
      by_cases hqq : r ≤ (a + b) / 2
      · rw [decide_eq_true hqq] at hm
        replace hm := Lib.hid hm
        go_wp2_with fail
        have hm' := hm.out
        rw [← e2.out] at hm'
        refine hm'.mono ?_
        clear hm'
        rintro e w' ⟨rfl, hc⟩
        have he := Lib.hid (Buf.then_ hq.out hc)
        go_wp2
        go_roundw
        case rel => exact ⟨a, (a + b) / 2, rfl, by simp only [e2.out], h1, hqq, by omega, he⟩
        case measure => simp [intOf]; omega
      · rw [decide_eq_false hqq] at hm
        replace hm := Lib.hid hm
        go_wp2_with fail
        have hm' := hm.out
        rw [← e2.out] at hm'
        refine hm'.mono ?_
        clear hm'
        rintro e w' ⟨rfl, hc⟩
        have he := Lib.hid (Buf.then_ hq.out hc)
        go_wp2
        go_roundw
        case rel => exact ⟨(a + b) / 2 + 1, b, congrArg (Value.int .i64) (by omega), rfl, by omega, h2, h3, he⟩
        case measure => simp [intOf]; omega
    · obtain rfl : a = b := by omega
      obtain rfl : a = r := by omega
      go_wp2
      go_ret
      exact ⟨rfl, hq.out⟩
section
variable {s0 s1 s2 s3 : List UInt8} {st fi num den er ru se : Int}
/-- The times of a record. -/
def TM (st fi num den : Int) (j : Nat) : Int := tm st fi num den (j : Int)
theorem tm_asc (P : RP s0 s1 s2 s3 st fi num den er ru se) : ∀ i j, i ≤ j → TM st fi num den i ≤ TM st fi num den j := fun i j h => tm_mono P.rv st fi (by omega)
set_option maxHeartbeats 4000000 in
set_option maxRecDepth 100000 in
theorem firstFrom_any (P : RP s0 s1 s2 s3 st fi num den er ru se) (b n c : Nat) (hn : n ≤ 1000) (t : Int) (w : World) :
    Calls Try.prog 29 #[.agg #[.string ⟨s0.toArray⟩, .string ⟨s1.toArray⟩, .string ⟨s2.toArray⟩, .string ⟨s3.toArray⟩, .int .i64 st, .int .i64 fi, .int .i64 num, .int .i64 den, .int .i64 er, .int .i64 ru, .int .i64 se, .slice (some ⟨b, 0, none⟩) n c], .int .i64 t] w fun e w' => e = .returned (.int .i64 ((ffd (TM st fi num den) t (n + 1) : Nat) : Int)) ∧ Below w.heap.size w w' := by
  obtain ⟨w0, hw0e⟩ : ∃ w0, w0 = (w.alloc (.cells #[.string ⟨s0.toArray⟩, .string ⟨s1.toArray⟩, .string ⟨s2.toArray⟩, .string ⟨s3.toArray⟩, .int .i64 st, .int .i64 fi, .int .i64 num, .int .i64 den, .int .i64 er, .int .i64 ru, .int .i64 se, .slice (some ⟨b, 0, none⟩) n c] 32)).alloc (.cells #[.int .i64 t] 3) := ⟨_, rfl⟩
  have eS : (w.alloc (.cells #[.string ⟨s0.toArray⟩, .string ⟨s1.toArray⟩, .string ⟨s2.toArray⟩, .string ⟨s3.toArray⟩, .int .i64 st, .int .i64 fi, .int .i64 num, .int .i64 den, .int .i64 er, .int .i64 ru, .int .i64 se, .slice (some ⟨b, 0, none⟩) n c] 32)).heap.size = w.heap.size + 1 := by simp
  have Y0 : Hid (Below w.heap.size w w0) := Lib.hid (by rw [hw0e]; exact (new_block _).alloc (by simp) _)
  have KA := Lib.hid (show w0.heap[w.heap.size]? = some (.cells #[.string ⟨s0.toArray⟩, .string ⟨s1.toArray⟩, .string ⟨s2.toArray⟩, .string ⟨s3.toArray⟩, .int .i64 st, .int .i64 fi, .int .i64 num, .int .i64 den, .int .i64 er, .int .i64 ru, .int .i64 se, .slice (some ⟨b, 0, none⟩) n c] 32 (0, 0)) by rw [hw0e]; exact (heap_alloc_old _ _ (by simp)).trans (heap_alloc_new w _))
  have KB := Lib.hid (show w0.heap[w.heap.size + 1]? = some (.cells #[.int .i64 t] 3 (0, 0)) by rw [hw0e, ← eS]; exact heap_alloc_new _ _)
  obtain ⟨r, hr⟩ : ∃ r, r = ffd (TM st fi num den) t (n + 1) := ⟨_, rfl⟩
  have SR := searchA (n + 1) r ⟨w.heap.size, 0, none⟩ ⟨w.heap.size + 1, 0, none⟩ w0 (by rw [hr]; exact ffd_le _ _ _) (by omega) (Lib.hid fun k w' h' hk => by
    have h := closeA P b n c t k w.heap.size (w.heap.size + 1) (by omega) w' (hb h' KA.out) (cell_of_row w' _ 0 _ _ _ (hb h' KB.out))
    have e := ffd_spec (tm_asc P) t (n + 1) k hk
    rw [← hr] at e
    rw [decide_eq_decide.2 e]
    exact h)
  rw [show ((n + 1 : Nat) : Int) = (n : Int) + 1 from by omega] at SR
  rw [← hr]
  replace SR := Lib.hid SR
  clear hr P
  go_enter Try.func29, Try.ntmps29
  go_upto_region 1 with fail
  rw [← hw0e]
  clear hw0e eS
  obtain ⟨x0, x1, x2, x3, x4, x5, x6, x7, x8, x9, x10, x11⟩ := c12 KA.out
  go_wp2_with (go_at_call 31; with_reducible refine SR.out.mono ?_; rintro e w1 ⟨rfl, hc⟩)
  go_ret
  exact ⟨rfl, Buf.then_ Y0.out hc⟩
/-- What Cut and Inside return: the samples from lo on, before hi. -/
def CR (w : World) (xs : List Int) (lo hi : Nat) (v : Value) : Prop := ∃ (u0 u1 u2 u3 : List UInt8) (i4 i5 i6 i7 i8 i9 i10 : Int) (sa : Option Addr) (ca : Nat), v = .agg #[.string ⟨u0.toArray⟩, .string ⟨u1.toArray⟩, .string ⟨u2.toArray⟩, .string ⟨u3.toArray⟩, .int .i64 i4, .int .i64 i5, .int .i64 i6, .int .i64 i7, .int .i64 i8, .int .i64 i9, .int .i64 i10, .slice sa (hi - lo) ca] ∧ hi - lo ≤ ca ∧ (0 < hi - lo → ∃ g, sa = some ⟨g, 0, none⟩ ∧ g < w.heap.size ∧ ∀ j, j < hi - lo → w.cell? ⟨g, j, none⟩ = some (.int .i64 (xs.getD (lo + j) 0)))
theorem CR.keep {w w' : World} {xs : List Int} {lo hi : Nat} {v : Value} (h : CR w xs lo hi v) (hl : Below w.heap.size w w') : CR w' xs lo hi v := by
  obtain ⟨u0, u1, u2, u3, i4, i5, i6, i7, i8, i9, i10, sa, ca, e, h1, h2⟩ := h
  refine ⟨u0, u1, u2, u3, i4, i5, i6, i7, i8, i9, i10, sa, ca, e, h1, fun h0 => ?_⟩
  obtain ⟨g, e1, h3, h4⟩ := h2 h0
  exact ⟨g, e1, Nat.lt_of_lt_of_le h3 hl.size, fun j hj => (hl.cell (p := ⟨g, j, none⟩) h3).trans (h4 j hj)⟩
theorem cr_no (w : World) (xs : List Int) {lo hi : Nat} (h : ¬ lo < hi) : CR w xs lo hi (.agg #[.string ⟨#[]⟩, .string ⟨#[]⟩, .string ⟨#[]⟩, .string ⟨#[]⟩, .int .i64 0, .int .i64 0, .int .i64 0, .int .i64 0, .int .i64 0, .int .i64 0, .int .i64 0, .slice none 0 0]) :=
  ⟨[], [], [], [], 0, 0, 0, 0, 0, 0, 0, none, 0, by rw [show hi - lo = 0 by omega], by omega, fun h0 => by omega⟩
theorem cr_yes {w : World} {xs : List Int} {lo hi g c2 : Nat} {fk : Int} (h : RX w g (hi - lo) c2 (cutl xs lo hi)) : CR w xs lo hi (.agg #[.string ⟨s0.toArray⟩, .string ⟨s1.toArray⟩, .string ⟨s2.toArray⟩, .string ⟨s3.toArray⟩, .int .i64 st, .int .i64 fk, .int .i64 num, .int .i64 den, .int .i64 er, .int .i64 ru, .int .i64 se, .slice (some ⟨g, 0, none⟩) ((hi - lo)) c2]) :=
  ⟨s0, s1, s2, s3, st, fk, num, den, er, ru, se, _, c2, rfl, h.hc, fun h0 => ⟨g, rfl, h.sr.1, fun j hj => by rw [(h.at_ hj).1, cutl_get hj]⟩⟩
set_option maxHeartbeats 4000000 in
set_option maxRecDepth 100000 in
theorem cut_any (P : RP s0 s1 s2 s3 st fi num den er ru se) {b n c : Nat} {xs : List Int} {w : World} (X : RX w b n c xs) (from_ to_ : Int) :
    Calls Try.prog 12 #[.agg #[.string ⟨s0.toArray⟩, .string ⟨s1.toArray⟩, .string ⟨s2.toArray⟩, .string ⟨s3.toArray⟩, .int .i64 st, .int .i64 fi, .int .i64 num, .int .i64 den, .int .i64 er, .int .i64 ru, .int .i64 se, .slice (some ⟨b, 0, none⟩) n c], .int .i64 from_, .int .i64 to_] w fun e w' => (∃ v, e = .returned (.tuple #[v, .bool (decide (min (ffd (TM st fi num den) from_ (n + 1)) n < min (ffd (TM st fi num den) to_ (n + 1)) n)), .int .i64 0]) ∧ CR w' xs (min (ffd (TM st fi num den) from_ (n + 1)) n) (min (ffd (TM st fi num den) to_ (n + 1)) n) v) ∧ Below w.heap.size w w' := by
  have n9 := X.h9
  obtain ⟨lo, hlo⟩ : ∃ lo, lo = min (ffd (TM st fi num den) from_ (n + 1)) n := ⟨_, rfl⟩
  obtain ⟨hi, hhi'⟩ : ∃ hi, hi = min (ffd (TM st fi num den) to_ (n + 1)) n := ⟨_, rfl⟩
  rw [← hlo, ← hhi']
  obtain ⟨ok, hok'⟩ : ∃ ok, ok = decide (lo < hi) := ⟨_, rfl⟩
  rw [← hok']
  have hok := Lib.hid hok'
  clear hok'
  obtain ⟨w0, hw0e⟩ : ∃ w0, w0 = (w.alloc (.cells #[.string ⟨s0.toArray⟩, .string ⟨s1.toArray⟩, .string ⟨s2.toArray⟩, .string ⟨s3.toArray⟩, .int .i64 st, .int .i64 fi, .int .i64 num, .int .i64 den, .int .i64 er, .int .i64 ru, .int .i64 se, .slice (some ⟨b, 0, none⟩) n c] 32)).alloc (.cells #[.string ⟨#[]⟩, .string ⟨#[]⟩, .string ⟨#[]⟩, .string ⟨#[]⟩, .int .i64 0, .int .i64 0, .int .i64 0, .int .i64 0, .int .i64 0, .int .i64 0, .int .i64 0, .slice none 0 0] 32) := ⟨_, rfl⟩
  have eS : (w.alloc (.cells #[.string ⟨s0.toArray⟩, .string ⟨s1.toArray⟩, .string ⟨s2.toArray⟩, .string ⟨s3.toArray⟩, .int .i64 st, .int .i64 fi, .int .i64 num, .int .i64 den, .int .i64 er, .int .i64 ru, .int .i64 se, .slice (some ⟨b, 0, none⟩) n c] 32)).heap.size = w.heap.size + 1 := by simp
  have Y0 : Hid (Below w.heap.size w w0) := Lib.hid (by rw [hw0e]; exact (new_block _).alloc (by simp) _)
  have KA := Lib.hid (show w0.heap[w.heap.size]? = some (.cells #[.string ⟨s0.toArray⟩, .string ⟨s1.toArray⟩, .string ⟨s2.toArray⟩, .string ⟨s3.toArray⟩, .int .i64 st, .int .i64 fi, .int .i64 num, .int .i64 den, .int .i64 er, .int .i64 ru, .int .i64 se, .slice (some ⟨b, 0, none⟩) n c] 32 (0, 0)) by rw [hw0e]; exact (heap_alloc_old _ _ (by simp)).trans (heap_alloc_new w _))
  have KB := Lib.hid (show w0.heap[w.heap.size + 1]? = some (.cells #[.string ⟨#[]⟩, .string ⟨#[]⟩, .string ⟨#[]⟩, .string ⟨#[]⟩, .int .i64 0, .int .i64 0, .int .i64 0, .int .i64 0, .int .i64 0, .int .i64 0, .int .i64 0, .slice none 0 0] 32 (0, 0)) by rw [hw0e, ← eS]; exact heap_alloc_new _ _)
  have VV := Lib.hid (valid_any P (X.keep Y0.out))
  have FA := Lib.hid fun w' => firstFrom_any P b n c (by omega) from_ w'
  have FB := Lib.hid fun w' => firstFrom_any P b n c (by omega) to_ w'
  have hmA : min ((ffd (TM st fi num den) from_ (n + 1) : Nat) : Int) (n : Int) = (lo : Int) := by omega
  have hmB : min ((ffd (TM st fi num den) to_ (n + 1) : Nat) : Int) (n : Int) = (hi : Int) := by omega
  have hhi : hi ≤ n := by omega
  have fA := ffd_le (TM st fi num den) from_ (n + 1)
  have fB := ffd_le (TM st fi num den) to_ (n + 1)
  generalize ffd (TM st fi num den) from_ (n + 1) = ra at *
  generalize ffd (TM st fi num den) to_ (n + 1) = rb at *
  replace hlo := Lib.hid hlo
  replace hhi' := Lib.hid hhi'
  have PP := Lib.hid P
  have XX0 := Lib.hid fun (w' : World) (h' : Below w.heap.size w w') => X.keep h'
  clear P X
  go_enter Try.func12, Try.ntmps12
  go_upto_region 1 with fail
  rw [← hw0e]
  clear hw0e eS
  obtain ⟨x0, x1, x2, x3, x4, x5, x6, x7, x8, x9, x10, x11⟩ := c12 KA.out
  go_upto_region 4 with (go_at_call 24; with_reducible refine VV.out.mono ?_; rintro e w1 ⟨rfl, hc⟩; (replace KA := Lib.hid (hb hc KA.out)); (replace KB := Lib.hid (hb hc KB.out)); (replace Y0 := Lib.hid (Buf.then_ Y0.out hc)); (clear hc x0 x1 x2 x3 x4 x5 x6 x7 x8 x9 x10 x11); (obtain ⟨x0, x1, x2, x3, x4, x5, x6, x7, x8, x9, x10, x11⟩ := c12 KA.out))
  have KX : Hid (∀ w', Below w1.heap.size w1 w' → w'.heap[w.heap.size]? = some (.cells #[.string ⟨s0.toArray⟩, .string ⟨s1.toArray⟩, .string ⟨s2.toArray⟩, .string ⟨s3.toArray⟩, .int .i64 st, .int .i64 fi, .int .i64 num, .int .i64 den, .int .i64 er, .int .i64 ru, .int .i64 se, .slice (some ⟨b, 0, none⟩) n c] 32 (0, 0))) := Lib.hid fun w' h' => hb h' KA.out
  clear x0 x1 x2 x3 x4 x5 x6 x7 x8 x9 x10 x11
  refine Buf.region_calm w1 (by kernel_rfl) (by kernel_rfl) (Below.refl _ _) ?_
  repeat (first
    | (go_big_quiet_want; refine quiet_row 32 (.tmp 3) rfl w.heap.size rfl 32 #[.string ⟨s0.toArray⟩, .string ⟨s1.toArray⟩, .string ⟨s2.toArray⟩, .string ⟨s3.toArray⟩, .int .i64 st, .int .i64 fi, .int .i64 num, .int .i64 den, .int .i64 er, .int .i64 ru, .int .i64 se, .slice (some ⟨b, 0, none⟩) n c] (0, 0) _ (fun _ hC => KX.out _ hC) rfl rfl rfl ?_; go_big_quiet_on; try simp only [Act.put, List.setIfInBounds_toArray, List.set_cons_zero, List.set_cons_succ])
    | go_big_quiet_step ((intro hC; first
       | (go_at_call 29; (with_reducible exact Buf.calm hC (FA.out _)))
       | (go_at_call 29; (with_reducible exact Buf.calm hC (FB.out _)))
       | rfl)))
  refine wpQuiet_nil ?_
  intro w5 b5
  replace KA := Lib.hid (hb b5 KA.out)
  replace KB := Lib.hid (hb b5 KB.out)
  replace Y0 := Lib.hid (Buf.then_ Y0.out b5)
  have XX := Lib.hid fun (w' : World) (h' : Below w5.heap.size w5 w') => XX0.out w' (Buf.then_ Y0.out h')
  try rw [hmA, hmB]
  try simp only [hmA, hmB]
  clear hmA hmB KX VV FA FB b5 XX0 fA fB
  obtain ⟨x0, x1, x2, x3, x4, x5, x6, x7, x8, x9, x10, x11⟩ := c12 KA.out
  by_cases hlt : lo < hi
  · have g1 : ¬ ((hi : Int) ≤ (lo : Int)) := by omega
    have CO := Lib.hid fun (w' : World) (h' : Below w5.heap.size w5 w') => part_any PP.out (XX.out w' h') lo hi hlt hhi
    obtain ⟨fk, hfk⟩ : ∃ fk, fk = fi + (lo : Int) := ⟨_, rfl⟩
    rw [← hfk] at CO
    replace hfk := Lib.hid hfk
    obtain rfl : ok = true := hok.out.trans (decide_eq_true hlt)
    clear PP XX
    go_wp2_with (first | ((with_reducible refine Mid.ldr 32 (.tmp 3) w.heap.size 32 #[.string ⟨s0.toArray⟩, .string ⟨s1.toArray⟩, .string ⟨s2.toArray⟩, .string ⟨s3.toArray⟩, .int .i64 st, .int .i64 fi, .int .i64 num, .int .i64 den, .int .i64 er, .int .i64 ru, .int .i64 se, .slice (some ⟨b, 0, none⟩) n c] KA.out ?_ ?_ ?_ ?_ ?_ ?_); (· rfl); (· rfl); (· first | rfl | simp [Act.eval]); (· exact ⟨_, rfl, rfl⟩); (· kernel_rfl)) | (go_at_call 30; with_reducible refine (CO.out _ (Below.refl _ _)).mono ?_; rintro e w9 ⟨⟨g, c2, rfl, rx, hg2⟩, hc⟩; (have sz1 := (Array.getElem?_eq_some_iff.1 KB.out).1); (replace KA := Lib.hid (hb hc KA.out)); (replace KB := Lib.hid (hb hc KB.out)); (replace Y0 := Lib.hid (Buf.then_ Y0.out hc)); (clear hc x0 x1 x2 x3 x4 x5 x6 x7 x8 x9 x10 x11); (obtain ⟨x0, x1, x2, x3, x4, x5, x6, x7, x8, x9, x10, x11⟩ := c12 KA.out); (have Z0 := Lib.hid (setRow_heap w9 (w.heap.size + 1) _ #[.string ⟨s0.toArray⟩, .string ⟨s1.toArray⟩, .string ⟨s2.toArray⟩, .string ⟨s3.toArray⟩, .int .i64 st, .int .i64 fk, .int .i64 num, .int .i64 den, .int .i64 er, .int .i64 ru, .int .i64 se, .slice (some ⟨g, 0, none⟩) ((hi - lo)) c2] _ _ KB.out)); (have ZW := Lib.hid (Mid.below_row Y0.out (w.heap.size + 1) #[.string ⟨s0.toArray⟩, .string ⟨s1.toArray⟩, .string ⟨s2.toArray⟩, .string ⟨s3.toArray⟩, .int .i64 st, .int .i64 fk, .int .i64 num, .int .i64 den, .int .i64 er, .int .i64 ru, .int .i64 se, .slice (some ⟨g, 0, none⟩) ((hi - lo)) c2] (by omega))); (have ZS := Lib.hid (rx.kept (w' := w9.setRow (w.heap.size + 1) #[.string ⟨s0.toArray⟩, .string ⟨s1.toArray⟩, .string ⟨s2.toArray⟩, .string ⟨s3.toArray⟩, .int .i64 st, .int .i64 fk, .int .i64 num, .int .i64 den, .int .i64 er, .int .i64 ru, .int .i64 se, .slice (some ⟨g, 0, none⟩) ((hi - lo)) c2]) (setRow_other _ _ _ _ (by omega)) (by simp [World.setRow]))); clear rx) | ((with_reducible refine Mid.str 32 (.tmp 6) (.tmp 36) (w.heap.size + 1) 32 #[.string ⟨#[]⟩, .string ⟨#[]⟩, .string ⟨#[]⟩, .string ⟨#[]⟩, .int .i64 0, .int .i64 0, .int .i64 0, .int .i64 0, .int .i64 0, .int .i64 0, .int .i64 0, .slice none 0 0] #[.string ⟨s0.toArray⟩, .string ⟨s1.toArray⟩, .string ⟨s2.toArray⟩, .string ⟨s3.toArray⟩, .int .i64 st, .int .i64 fk, .int .i64 num, .int .i64 den, .int .i64 er, .int .i64 ru, .int .i64 se, .slice (some ⟨g, 0, none⟩) ((hi - lo)) c2] KB.out ?_ ?_ ?_ ?_ ?_ ?_ ?_ ?_); (· rfl); (· rfl); (· first | rfl | simp [Act.eval]); (· first | rfl | simp [Act.eval]); (· kernel_rfl); (· rfl); (· simp [Value.oneCell'])))
    exact bodyPost_ret (Res.row_tmp2 rfl _ _ (w.heap.size + 1) _ _ _ _ rfl Z0.out rfl (by rfl) rfl) rfl ⟨⟨_, rfl, cr_yes ZS.out⟩, ZW.out⟩
  · have g1 : (hi : Int) ≤ (lo : Int) := by omega
    obtain rfl : ok = false := hok.out.trans (decide_eq_false hlt)
    clear PP XX
    have Z0 := Lib.hid (setRow_heap w5 (w.heap.size + 1) _ #[.string ⟨#[]⟩, .string ⟨#[]⟩, .string ⟨#[]⟩, .string ⟨#[]⟩, .int .i64 0, .int .i64 0, .int .i64 0, .int .i64 0, .int .i64 0, .int .i64 0, .int .i64 0, .slice none 0 0] _ _ KB.out)
    have ZW := Lib.hid (Mid.below_row Y0.out (w.heap.size + 1) #[.string ⟨#[]⟩, .string ⟨#[]⟩, .string ⟨#[]⟩, .string ⟨#[]⟩, .int .i64 0, .int .i64 0, .int .i64 0, .int .i64 0, .int .i64 0, .int .i64 0, .int .i64 0, .slice none 0 0] (by omega))
    go_wp2_with (first | ((with_reducible refine Mid.str 32 (.tmp 6) (.tmp 32) (w.heap.size + 1) 32 #[.string ⟨#[]⟩, .string ⟨#[]⟩, .string ⟨#[]⟩, .string ⟨#[]⟩, .int .i64 0, .int .i64 0, .int .i64 0, .int .i64 0, .int .i64 0, .int .i64 0, .int .i64 0, .slice none 0 0] #[.string ⟨#[]⟩, .string ⟨#[]⟩, .string ⟨#[]⟩, .string ⟨#[]⟩, .int .i64 0, .int .i64 0, .int .i64 0, .int .i64 0, .int .i64 0, .int .i64 0, .int .i64 0, .slice none 0 0] KB.out ?_ ?_ ?_ ?_ ?_ ?_ ?_ ?_); (· rfl); (· rfl); (· first | rfl | simp [Act.eval]); (· first | rfl | simp [Act.eval]); (· kernel_rfl); (· rfl); (· simp [Value.oneCell'])) | fail)
    exact bodyPost_ret (Res.row_tmp2 rfl _ _ (w.heap.size + 1) _ _ _ _ rfl Z0.out rfl (by rfl) rfl) rfl ⟨⟨_, rfl, cr_no _ xs hlt⟩, ZW.out⟩
set_option maxHeartbeats 4000000 in
set_option maxRecDepth 100000 in
theorem inside_any (P : RP s0 s1 s2 s3 st fi num den er ru se) {b n c : Nat} {xs : List Int} {w : World} (X : RX w b n c xs) (from_ to_ : Int) :
    Calls Try.prog 13 #[.agg #[.string ⟨s0.toArray⟩, .string ⟨s1.toArray⟩, .string ⟨s2.toArray⟩, .string ⟨s3.toArray⟩, .int .i64 st, .int .i64 fi, .int .i64 num, .int .i64 den, .int .i64 er, .int .i64 ru, .int .i64 se, .slice (some ⟨b, 0, none⟩) n c], .int .i64 from_, .int .i64 to_] w fun e w' => (∃ v, e = .returned (.tuple #[v, .bool (decide (ffd (TM st fi num den) from_ (n + 1) < ffd (fun j => TM st fi num den (j + 1)) (to_ + 1) n)), .int .i64 0]) ∧ CR w' xs (ffd (TM st fi num den) from_ (n + 1)) (ffd (fun j => TM st fi num den (j + 1)) (to_ + 1) n) v) ∧ Below w.heap.size w w' := by
  have n9 := X.h9
  obtain ⟨lo, hlo⟩ : ∃ lo, lo = ffd (TM st fi num den) from_ (n + 1) := ⟨_, rfl⟩
  obtain ⟨hi, hhi'⟩ : ∃ hi, hi = ffd (fun j => TM st fi num den (j + 1)) (to_ + 1) n := ⟨_, rfl⟩
  rw [← hlo, ← hhi']
  obtain ⟨ok, hok'⟩ : ∃ ok, ok = decide (lo < hi) := ⟨_, rfl⟩
  rw [← hok']
  have hok := Lib.hid hok'
  clear hok'
  obtain ⟨w0, hw0e⟩ : ∃ w0, w0 = ((w.alloc (.cells #[.string ⟨s0.toArray⟩, .string ⟨s1.toArray⟩, .string ⟨s2.toArray⟩, .string ⟨s3.toArray⟩, .int .i64 st, .int .i64 fi, .int .i64 num, .int .i64 den, .int .i64 er, .int .i64 ru, .int .i64 se, .slice (some ⟨b, 0, none⟩) n c] 32)).alloc (.cells #[.int .i64 to_] 3)).alloc (.cells #[.string ⟨#[]⟩, .string ⟨#[]⟩, .string ⟨#[]⟩, .string ⟨#[]⟩, .int .i64 0, .int .i64 0, .int .i64 0, .int .i64 0, .int .i64 0, .int .i64 0, .int .i64 0, .slice none 0 0] 32) := ⟨_, rfl⟩
  have eS : (w.alloc (.cells #[.string ⟨s0.toArray⟩, .string ⟨s1.toArray⟩, .string ⟨s2.toArray⟩, .string ⟨s3.toArray⟩, .int .i64 st, .int .i64 fi, .int .i64 num, .int .i64 den, .int .i64 er, .int .i64 ru, .int .i64 se, .slice (some ⟨b, 0, none⟩) n c] 32)).heap.size = w.heap.size + 1 := by simp
  have eS2 : ((w.alloc (.cells #[.string ⟨s0.toArray⟩, .string ⟨s1.toArray⟩, .string ⟨s2.toArray⟩, .string ⟨s3.toArray⟩, .int .i64 st, .int .i64 fi, .int .i64 num, .int .i64 den, .int .i64 er, .int .i64 ru, .int .i64 se, .slice (some ⟨b, 0, none⟩) n c] 32)).alloc (.cells #[.int .i64 to_] 3)).heap.size = w.heap.size + 2 := by simp
  have Y0 : Hid (Below w.heap.size w w0) := Lib.hid (by rw [hw0e]; exact ((new_block _).alloc (by simp) _).alloc (by simp; omega) _)
  have KA := Lib.hid (show w0.heap[w.heap.size]? = some (.cells #[.string ⟨s0.toArray⟩, .string ⟨s1.toArray⟩, .string ⟨s2.toArray⟩, .string ⟨s3.toArray⟩, .int .i64 st, .int .i64 fi, .int .i64 num, .int .i64 den, .int .i64 er, .int .i64 ru, .int .i64 se, .slice (some ⟨b, 0, none⟩) n c] 32 (0, 0)) by rw [hw0e]; exact (heap_alloc_old _ _ (by simp; omega)).trans ((heap_alloc_old _ _ (by simp)).trans (heap_alloc_new w _)))
  have KT := Lib.hid (show w0.heap[w.heap.size + 1]? = some (.cells #[.int .i64 to_] 3 (0, 0)) by rw [hw0e]; refine (heap_alloc_old _ _ (by simp)).trans ?_; rw [← eS]; exact heap_alloc_new _ _)
  have KB := Lib.hid (show w0.heap[w.heap.size + 2]? = some (.cells #[.string ⟨#[]⟩, .string ⟨#[]⟩, .string ⟨#[]⟩, .string ⟨#[]⟩, .int .i64 0, .int .i64 0, .int .i64 0, .int .i64 0, .int .i64 0, .int .i64 0, .int .i64 0, .slice none 0 0] 32 (0, 0)) by rw [hw0e, ← eS2]; exact heap_alloc_new _ _)
  have VV := Lib.hid (valid_any P (X.keep Y0.out))
  have FA := Lib.hid fun w' => firstFrom_any P b n c (by omega) from_ w'
  rw [← hlo] at FA
  have hhi : hi ≤ n := by rw [hhi']; exact ffd_le _ _ _
  have SR := Lib.hid fun (w9 : World) (h9 : Below w0.heap.size w0 w9) => searchB n hi ⟨w.heap.size, 0, none⟩ ⟨w.heap.size + 1, 0, none⟩ w9 hhi (by omega) (Lib.hid fun k w' h' hk => by
    have hh := Buf.then_ h9 h'
    have h := closeB P b n c to_ k w.heap.size (w.heap.size + 1) (by omega) w' (hb hh KA.out) (cell_of_row w' _ 0 _ _ _ (hb hh KT.out))
    have e := ffd_spec (T := fun j => TM st fi num den (j + 1)) (fun i j h => tm_asc P (i + 1) (j + 1) (by omega)) (to_ + 1) n k hk
    rw [← hhi'] at e
    have e2 : hi ≤ k ↔ to_ < tm st fi num den ((k : Int) + 1) := by
      rw [e]
      show to_ + 1 ≤ tm st fi num den ((k + 1 : Nat) : Int) ↔ _
      rw [show ((k + 1 : Nat) : Int) = (k : Int) + 1 from by omega]
      omega
    rw [decide_eq_decide.2 e2]
    exact h)
  have hlo9 : lo ≤ n + 1 := by rw [hlo]; exact ffd_le _ _ _
  replace hlo := Lib.hid hlo
  replace hhi' := Lib.hid hhi'
  have PP := Lib.hid P
  have XX0 := Lib.hid fun (w' : World) (h' : Below w.heap.size w w') => X.keep h'
  have Z9 := Lib.hid (Below.refl w0.heap.size w0)
  clear P X
  go_enter Try.func13, Try.ntmps13
  go_upto_region 1 with fail
  rw [← hw0e]
  clear hw0e eS eS2
  obtain ⟨x0, x1, x2, x3, x4, x5, x6, x7, x8, x9, x10, x11⟩ := c12 KA.out
  go_upto_region 5 with (first
    | ((with_reducible refine Mid.ldr 32 (.tmp 3) w.heap.size 32 #[.string ⟨s0.toArray⟩, .string ⟨s1.toArray⟩, .string ⟨s2.toArray⟩, .string ⟨s3.toArray⟩, .int .i64 st, .int .i64 fi, .int .i64 num, .int .i64 den, .int .i64 er, .int .i64 ru, .int .i64 se, .slice (some ⟨b, 0, none⟩) n c] KA.out ?_ ?_ ?_ ?_ ?_ ?_); (· rfl); (· rfl); (· first | rfl | simp [Act.eval]); (· exact ⟨_, rfl, rfl⟩); (· kernel_rfl)) | ((with_reducible refine Mid.ldr 32 (.tmp 3) w.heap.size 32 #[.string ⟨s0.toArray⟩, .string ⟨s1.toArray⟩, .string ⟨s2.toArray⟩, .string ⟨s3.toArray⟩, .int .i64 st, .int .i64 fi, .int .i64 num, .int .i64 den, .int .i64 er, .int .i64 ru, .int .i64 se, .slice (some ⟨b, 0, none⟩) n c] KA.out ?_ ?_ ?_ ?_ ?_ ?_); (· rfl); (· rfl); (· first | rfl | simp [Act.eval]); (· exact ⟨_, rfl, rfl⟩); (· kernel_rfl))
    | (go_at_call 24; with_reducible refine VV.out.mono ?_; rintro e w1 ⟨rfl, hc⟩; (replace Z9 := Lib.hid (Buf.then_ Z9.out hc)); (replace KA := Lib.hid (hb hc KA.out)); (replace KB := Lib.hid (hb hc KB.out)); (replace Y0 := Lib.hid (Buf.then_ Y0.out hc)); (clear hc x0 x1 x2 x3 x4 x5 x6 x7 x8 x9 x10 x11); (obtain ⟨x0, x1, x2, x3, x4, x5, x6, x7, x8, x9, x10, x11⟩ := c12 KA.out))
    | (go_at_call 29; with_reducible refine (FA.out _).mono ?_; rintro e w2 ⟨rfl, hc⟩; (replace Z9 := Lib.hid (Buf.then_ Z9.out hc)); (replace KA := Lib.hid (hb hc KA.out)); (replace KB := Lib.hid (hb hc KB.out)); (replace Y0 := Lib.hid (Buf.then_ Y0.out hc)); (clear hc x0 x1 x2 x3 x4 x5 x6 x7 x8 x9 x10 x11); (obtain ⟨x0, x1, x2, x3, x4, x5, x6, x7, x8, x9, x10, x11⟩ := c12 KA.out))
    | (go_at_call 31; with_reducible refine (SR.out _ Z9.out).mono ?_; rintro e w5 ⟨rfl, hc⟩; (replace Z9 := Lib.hid (Buf.then_ Z9.out hc)); (replace KA := Lib.hid (hb hc KA.out)); (replace KB := Lib.hid (hb hc KB.out)); (replace Y0 := Lib.hid (Buf.then_ Y0.out hc)); (clear hc x0 x1 x2 x3 x4 x5 x6 x7 x8 x9 x10 x11); (obtain ⟨x0, x1, x2, x3, x4, x5, x6, x7, x8, x9, x10, x11⟩ := c12 KA.out)))
  have XX := Lib.hid fun (w' : World) (h' : Below w5.heap.size w5 w') => XX0.out w' (Buf.then_ Y0.out h')
  clear VV FA SR XX0 Z9 KT
  by_cases hlt : lo < hi
  · have g1 : ¬ ((hi : Int) ≤ (lo : Int)) := by omega
    have CO := Lib.hid fun (w' : World) (h' : Below w5.heap.size w5 w') => part_any PP.out (XX.out w' h') lo hi hlt hhi
    obtain ⟨fk, hfk⟩ : ∃ fk, fk = fi + (lo : Int) := ⟨_, rfl⟩
    rw [← hfk] at CO
    replace hfk := Lib.hid hfk
    obtain rfl : ok = true := hok.out.trans (decide_eq_true hlt)
    clear PP XX
    go_wp2_with (first | ((with_reducible refine Mid.ldr 32 (.tmp 3) w.heap.size 32 #[.string ⟨s0.toArray⟩, .string ⟨s1.toArray⟩, .string ⟨s2.toArray⟩, .string ⟨s3.toArray⟩, .int .i64 st, .int .i64 fi, .int .i64 num, .int .i64 den, .int .i64 er, .int .i64 ru, .int .i64 se, .slice (some ⟨b, 0, none⟩) n c] KA.out ?_ ?_ ?_ ?_ ?_ ?_); (· rfl); (· rfl); (· first | rfl | simp [Act.eval]); (· exact ⟨_, rfl, rfl⟩); (· kernel_rfl)) | (go_at_call 30; with_reducible refine (CO.out _ (Below.refl _ _)).mono ?_; rintro e w9 ⟨⟨g, c2, rfl, rx, hg2⟩, hc⟩; (have sz1 := (Array.getElem?_eq_some_iff.1 KB.out).1); (replace KA := Lib.hid (hb hc KA.out)); (replace KB := Lib.hid (hb hc KB.out)); (replace Y0 := Lib.hid (Buf.then_ Y0.out hc)); (clear hc x0 x1 x2 x3 x4 x5 x6 x7 x8 x9 x10 x11); (obtain ⟨x0, x1, x2, x3, x4, x5, x6, x7, x8, x9, x10, x11⟩ := c12 KA.out); (have Z0 := Lib.hid (setRow_heap w9 (w.heap.size + 2) _ #[.string ⟨s0.toArray⟩, .string ⟨s1.toArray⟩, .string ⟨s2.toArray⟩, .string ⟨s3.toArray⟩, .int .i64 st, .int .i64 fk, .int .i64 num, .int .i64 den, .int .i64 er, .int .i64 ru, .int .i64 se, .slice (some ⟨g, 0, none⟩) ((hi - lo)) c2] _ _ KB.out)); (have ZW := Lib.hid (Mid.below_row Y0.out (w.heap.size + 2) #[.string ⟨s0.toArray⟩, .string ⟨s1.toArray⟩, .string ⟨s2.toArray⟩, .string ⟨s3.toArray⟩, .int .i64 st, .int .i64 fk, .int .i64 num, .int .i64 den, .int .i64 er, .int .i64 ru, .int .i64 se, .slice (some ⟨g, 0, none⟩) ((hi - lo)) c2] (by omega))); (have ZS := Lib.hid (rx.kept (w' := w9.setRow (w.heap.size + 2) #[.string ⟨s0.toArray⟩, .string ⟨s1.toArray⟩, .string ⟨s2.toArray⟩, .string ⟨s3.toArray⟩, .int .i64 st, .int .i64 fk, .int .i64 num, .int .i64 den, .int .i64 er, .int .i64 ru, .int .i64 se, .slice (some ⟨g, 0, none⟩) ((hi - lo)) c2]) (setRow_other _ _ _ _ (by omega)) (by simp [World.setRow]))); clear rx) | ((with_reducible refine Mid.str 32 (.tmp 6) (.tmp 30) (w.heap.size + 2) 32 #[.string ⟨#[]⟩, .string ⟨#[]⟩, .string ⟨#[]⟩, .string ⟨#[]⟩, .int .i64 0, .int .i64 0, .int .i64 0, .int .i64 0, .int .i64 0, .int .i64 0, .int .i64 0, .slice none 0 0] #[.string ⟨s0.toArray⟩, .string ⟨s1.toArray⟩, .string ⟨s2.toArray⟩, .string ⟨s3.toArray⟩, .int .i64 st, .int .i64 fk, .int .i64 num, .int .i64 den, .int .i64 er, .int .i64 ru, .int .i64 se, .slice (some ⟨g, 0, none⟩) ((hi - lo)) c2] KB.out ?_ ?_ ?_ ?_ ?_ ?_ ?_ ?_); (· rfl); (· rfl); (· first | rfl | simp [Act.eval]); (· first | rfl | simp [Act.eval]); (· kernel_rfl); (· rfl); (· simp [Value.oneCell'])))
    exact bodyPost_ret (Res.row_tmp2 rfl _ _ (w.heap.size + 2) _ _ _ _ rfl Z0.out rfl (by rfl) rfl) rfl ⟨⟨_, rfl, cr_yes ZS.out⟩, ZW.out⟩
  · have g1 : (hi : Int) ≤ (lo : Int) := by omega
    obtain rfl : ok = false := hok.out.trans (decide_eq_false hlt)
    clear PP XX
    have Z0 := Lib.hid (setRow_heap w5 (w.heap.size + 2) _ #[.string ⟨#[]⟩, .string ⟨#[]⟩, .string ⟨#[]⟩, .string ⟨#[]⟩, .int .i64 0, .int .i64 0, .int .i64 0, .int .i64 0, .int .i64 0, .int .i64 0, .int .i64 0, .slice none 0 0] _ _ KB.out)
    have ZW := Lib.hid (Mid.below_row Y0.out (w.heap.size + 2) #[.string ⟨#[]⟩, .string ⟨#[]⟩, .string ⟨#[]⟩, .string ⟨#[]⟩, .int .i64 0, .int .i64 0, .int .i64 0, .int .i64 0, .int .i64 0, .int .i64 0, .int .i64 0, .slice none 0 0] (by omega))
    go_wp2_with (first | ((with_reducible refine Mid.str 32 (.tmp 6) (.tmp 26) (w.heap.size + 2) 32 #[.string ⟨#[]⟩, .string ⟨#[]⟩, .string ⟨#[]⟩, .string ⟨#[]⟩, .int .i64 0, .int .i64 0, .int .i64 0, .int .i64 0, .int .i64 0, .int .i64 0, .int .i64 0, .slice none 0 0] #[.string ⟨#[]⟩, .string ⟨#[]⟩, .string ⟨#[]⟩, .string ⟨#[]⟩, .int .i64 0, .int .i64 0, .int .i64 0, .int .i64 0, .int .i64 0, .int .i64 0, .int .i64 0, .slice none 0 0] KB.out ?_ ?_ ?_ ?_ ?_ ?_ ?_ ?_); (· rfl); (· rfl); (· first | rfl | simp [Act.eval]); (· first | rfl | simp [Act.eval]); (· kernel_rfl); (· rfl); (· simp [Value.oneCell'])) | fail)
    exact bodyPost_ret (Res.row_tmp2 rfl _ _ (w.heap.size + 2) _ _ _ _ rfl Z0.out rfl (by rfl) rfl) rfl ⟨⟨_, rfl, cr_no _ xs hlt⟩, ZW.out⟩
end
end Rec
end Go.Proofs.Yticdjlpabknaiaa
