/- The mathematics of data that arrive late: outputs of a part, times of both. -/
import Derived.Test.YtkoojgmfnelaiaaFltE
import Derived.Test.YtkoojgmfnelaiaaFltR
set_option linter.unusedVariables false
namespace Go.Proofs.Ytkoojgmfnelaiaa
open Go.RowKit
namespace Flt
open Dice Fil
theorem outs_part (T X : Nat → Int) (n s : Nat) (fac N0 : Int) (c : Nat) : ∀ k, n - 1 ≤ k → outs T X n s fac N0 (c + k) = outs T X n s fac N0 (c + (n - 1)) ++ outs T (fun j => X (c + j)) n s fac (N0 + c) k := by
  intro k hk
  obtain ⟨d, rfl⟩ := Nat.exists_eq_add_of_le hk
  clear hk
  induction d with
  | zero => rw [outs_zero T (fun j => X (c + j)) n s fac (N0 + c) (n - 1 + 0) (by omega)]; simp
  | succ d ih =>
    have e1 : c + (n - 1 + (d + 1)) = c + (n - 1 + d) + 1 := by omega
    have e2 : n - 1 + (d + 1) = n - 1 + d + 1 := by omega
    have hd : dot T X (c + (n - 1 + d)) n = dot T (fun j => X (c + j)) (n - 1 + d) n := dot_congr T T X (fun j => X (c + j)) _ _ n fun j hj => ⟨rfl, by show X _ = X _; congr 1; omega⟩
    have em : N0 + ((c + (n - 1 + d) : Nat) : Int) = N0 + c + ((n - 1 + d : Nat) : Int) := by push_cast; omega
    rw [e1, e2]
    by_cases hm : (N0 + ((c + (n - 1 + d) : Nat) : Int)) % fac = 0
    · rw [outs_yes T X n s fac N0 _ (by omega) hm, outs_yes T _ n s fac (N0 + c) _ (by omega) (by rw [← em]; exact hm), ih, hd, List.append_assoc]
    · rw [outs_no T X n s fac N0 _ hm, outs_no T _ n s fac (N0 + c) _ (by rw [← em]; exact hm), ih]
theorem nx_shift (fac N0 : Int) (k m : Nat) : (k : Int) + nx fac (N0 + k) m = nx fac N0 (k + m) := by
  unfold nx
  rw [show N0 + ((k + m : Nat) : Int) = N0 + k + m by push_cast; omega]
  push_cast
  omega
/-- What is to be known of both lists of outputs. -/
structure Late (T X : Nat → Int) (n s L k : Nat) (fac N0 : Int) (la lb : List Int) (FA FB : Int) (off : Nat) : Prop where
  len : la.length = off + lb.length
  eq : ∀ i, i < lb.length → fn la (off + i) = fn lb i
  at_ : (k : Int) + FB = FA + fac * off
theorem late_of (T X : Nat → Int) (n s L k : Nat) (fac N0 : Int) (f1 : 1 ≤ fac) (n1 : 1 ≤ n) (hk : k < L) (hne : outs T (fun j => X (k + j)) n s fac (N0 + k) (L - k) ≠ []) :
    ∃ off, Late T X n s L k fac N0 (outs T X n s fac N0 L) (outs T (fun j => X (k + j)) n s fac (N0 + k) (L - k)) (nx fac N0 (n - 1)) (nx fac (N0 + k) (n - 1)) off := by
  have hm : n - 1 ≤ L - k := by
    by_cases h : n - 1 ≤ L - k
    · exact h
    · exact absurd (outs_zero T _ n s fac (N0 + k) (L - k) (by omega)) hne
  have e := outs_part T X n s fac N0 k (L - k) hm
  rw [show k + (L - k) = L by omega] at e
  refine ⟨(outs T X n s fac N0 (k + (n - 1))).length, ?_, ?_, ?_⟩
  · rw [e, List.length_append]
  · intro i hi
    rw [e]
    unfold fn
    rw [List.getD_eq_getElem?_getD, List.getD_eq_getElem?_getD, List.getElem?_append_right (by omega), Nat.add_sub_cancel_left]
  · rw [nx_shift]
    exact nx_len T X n s fac N0 f1 (k + (n - 1)) (by omega)
/-- The rates that the law draws: q is the time of a sample. -/
def Rq (num q : Int) : Prop := (num = 1 ∧ q = 1000000) ∨ (num = 2 ∧ q = 500000) ∨ (num = 4 ∧ q = 250000) ∨ (num = 20 ∧ q = 50000)
theorem rq_of {num : Int} (h : num = 1 ∨ num = 2 ∨ num = 4 ∨ num = 20) : ∃ q, Rq num q := by
  rcases h with rfl | rfl | rfl | rfl
  · exact ⟨_, .inl ⟨rfl, rfl⟩⟩
  · exact ⟨_, .inr (.inl ⟨rfl, rfl⟩)⟩
  · exact ⟨_, .inr (.inr (.inl ⟨rfl, rfl⟩))⟩
  · exact ⟨_, .inr (.inr (.inr ⟨rfl, rfl⟩))⟩
theorem rq_rv {num q : Int} (h : Rq num q) : Rate.RV num 1 := by
  rcases h with ⟨rfl, rfl⟩ | ⟨rfl, rfl⟩ | ⟨rfl, rfl⟩ | ⟨rfl, rfl⟩ <;> exact ⟨by decide, by decide, by decide, by decide, by decide⟩
theorem rq_el {num q : Int} (h : Rq num q) (k : Int) : Rate.el num 1 k = k * q := by
  unfold Rate.el
  rcases h with ⟨rfl, rfl⟩ | ⟨rfl, rfl⟩ | ⟨rfl, rfl⟩ | ⟨rfl, rfl⟩ <;> omega
theorem rq_num {num q : Int} (h : Rq num q) (k : Int) (k0 : 0 ≤ k) : Rate.numF num 1 (1000000000000 + k * q) = 1000000 * num + k := by
  rw [Rate.numF_eq _ _ _ (by decide)]
  rcases h with ⟨rfl, rfl⟩ | ⟨rfl, rfl⟩ | ⟨rfl, rfl⟩ | ⟨rfl, rfl⟩ <;> omega
/-- The slower rate. -/
structure Slow (num q fac A B : Int) : Prop where
  calls : ∀ w', Calls Try.prog 39 #[.agg #[.int .i64 num, .int .i64 1], .int .i64 fac] w' fun e w'' => e = .returned (.tuple #[.agg #[.int .i64 A, .int .i64 B], .int .i64 0]) ∧ Below w'.heap.size w' w''
  rv : Rate.RV A B
  el : ∀ j, Rate.el A B j = j * fac * q
theorem slow_of {num q fac : Int} (h : Rq num q) (f1 : 1 ≤ fac) (f3 : fac ≤ 3) : ∃ A B, Slow num q fac A B := by
  have hr := rq_rv h
  obtain ⟨g, hd, hg⟩ := Rate.dv_of num fac hr.n1 hr.n2 f1 (by omega)
  refine ⟨num / g, fac / g, ?_, hd.rv, ?_⟩
  · intro w'
    have rv := hd.rv
    refine Rate.slower_yes num 1 fac g (num / g) (fac / g) hr w' f1 (by omega) hd.g1 rv.n1 rv.n2 (by rw [Int.one_mul]; exact rv.d1) (by rw [Int.one_mul]; have := rv.d2; omega) (Lib.hid rfl) (Lib.hid (by rw [Int.one_mul])) rv (by rw [Int.one_mul]; exact hd.calls)
  · intro j
    clear hd hr
    have hf : fac = 1 ∨ fac = 2 ∨ fac = 3 := by omega
    unfold Rate.el
    rcases h with ⟨rfl, rfl⟩ | ⟨rfl, rfl⟩ | ⟨rfl, rfl⟩ | ⟨rfl, rfl⟩ <;> rcases hf with rfl | rfl | rfl
    all_goals first
      | (have e : g = 1 := by rw [hg]; decide
         subst e; omega)
      | (have e : g = 2 := by rw [hg]; decide
         subst e; omega)
/-- What Segment returns, in one form. -/
def SegU (B : Nat) (lst : List Int) (t0 A B2 : Int) (e : Ending) (w : World) : Prop :=
  ∃ (x0 x2 x3 x4 : Int) (ra : Option Addr) (rc : Nat) (ok : Bool), e = .returned (.tuple #[.agg #[.int .i64 x0, .int .i64 0, .int .i64 x2, .int .i64 x3, .int .i64 x4, .slice ra lst.length rc], .bool ok, .int .i64 0]) ∧
    Buf.Own B w (.slice ra lst.length rc) (ints lst) ∧ (ok = true → lst ≠ [] ∧ x0 = t0 ∧ x2 = A ∧ x3 = B2) ∧ (ok = false → lst = [])
theorem segU_of {B : Nat} {T X : Nat → Int} {n s L : Nat} {fac st fi num den er A B2 N : Int} {e : Ending} {w : World} (h : SegSaid B T X n s L fac st fi num den er A B2 N e w) :
    SegU B (outs T X n s fac N L) (st + Rate.el num den (fi + nx fac N (n - 1))) A B2 e w := by
  rcases h with ⟨h0, rfl⟩ | ⟨h0, r, rfl, ho⟩
  · rw [h0]
    exact ⟨0, 0, 0, 0, none, 0, false, rfl, Buf.Own.nil _ _, (fun h => by cases h), fun _ => rfl⟩
  · obtain ⟨ra, rc, rfl⟩ := own_len ho
    rw [ints_len] at ho ⊢
    exact ⟨_, _, _, _, ra, rc, true, rfl, ho, fun _ => ⟨h0, rfl, rfl, rfl⟩, (fun h => by cases h)⟩
/-- A sample list that can be read, from any place on. -/
theorem RXo.part {w : World} {b off L c : Nat} {X : Nat → Int} (h : RXo w b off L c X) (k : Nat) (hk : k < L) : RXo w b (off + k) (L - k) (c - k) (fun j => X (k + j)) :=
  ⟨h.lt, fun j hj => by rw [Nat.add_assoc]; exact h.sr (k + j) (by omega), by omega, by have := h.h9; omega, by have := h.hc; omega, by have := h.c9; omega, fun j hj => h.ok (k + j) (by omega)⟩
theorem same_time (st FA FB fac q : Int) (k off i : Int) (h : k + FB = FA + fac * off) : st + FA * q + (off + i) * fac * q = st + (k + FB) * q + i * fac * q := by
  rw [h]
  grind
end Flt
end Go.Proofs.Ytkoojgmfnelaiaa
