/- slices.Backward over rules. -/
import Derived.Test.YticjmblajloefaaRuleB
import Derived.RangeFuncBox
import Derived.RangeFuncNested
import Derived.RangeFuncLeaves
import Derived.Shelf.Abstract
import Derived.OwnWalkIn
import Derived.TacticsInMore
import Derived.LoopNIn
import Derived.LoopIn
set_option linter.unusedVariables false
namespace Go.Proofs.Yticjmblajloefaa
open Go.RowKit Go.Shelf
attribute [local go_sem] Oper.semAt_some
namespace Ru
def upto {α : Type} (f : Nat → α) (k : Nat) : List α := (List.range k).map f
theorem upto_succ {α : Type} (f : Nat → α) (k : Nat) : upto f (k + 1) = upto f k ++ [f k] := by simp [upto, List.range_succ]
theorem upto_length {α : Type} (f : Nat → α) (k : Nat) : (upto f k).length = k := by simp [upto]
def bk (len k : Nat) : Nat := len - 1 - k
/-- All blocks below N but X are as they were. -/
structure KX (N X : Nat) (W W' : World) : Prop where
  size : W.heap.size ≤ W'.heap.size
  same : ∀ k, k < N → k ≠ X → W'.heap[k]? = W.heap[k]?
theorem KX.refl (N X : Nat) (W : World) : KX N X W W := ⟨Nat.le_refl _, fun _ _ _ => rfl⟩
theorem KX.trans {N X : Nat} {A B C : World} (h : KX N X A B) (k : KX N X B C) : KX N X A C := ⟨Nat.le_trans h.size k.size, fun j h1 h2 => (k.same j h1 h2).trans (h.same j h1 h2)⟩
theorem KX.cell {N X : Nat} {A B : World} (h : KX N X A B) {k o : Nat} {v : Value} (h1 : k < N) (h2 : k ≠ X) (hc : A.cell? ⟨k, o, none⟩ = some v) : B.cell? ⟨k, o, none⟩ = some v := (World.cell?_of_block (a := ⟨k, o, none⟩) (h.same k h1 h2)).trans hc
theorem KX.set (N X o : Nat) (W : World) (v : Value) : KX N X W (W.setCell ⟨X, o, none⟩ v) := ⟨by simp, fun k _ h2 => Below.heap_setCell W _ _ k h2⟩
theorem KX.below {N X B : Nat} {A W : World} (hb : Below B A W) (hN : N ≤ B) : KX N X A W := ⟨hb.size, fun k h1 _ => hb.block k (by omega)⟩
theorem kx_own {β : Type} (N X : Nat) (W0 : World) (hN : N ≤ W0.heap.size) : OwnFrom N (fun (_ : β) W => KX N X W0 W) := fun _ A B row hs hg hr =>
  ⟨Nat.le_trans hs.size hg.size, fun k h1 h2 => (hg.block k (by have := hs.size; omega) (fun e => by have := (hr k e.symm).1; omega)).trans (hs.same k h1 h2)⟩
set_option maxRecDepth 100000 in
set_option maxHeartbeats 2000000 in
theorem back1_in (F : Fence) (n : Nat) (h7 : F.fn 27) (hro : F.round = none) (hn : 1 ≤ n) (l Bs N X b len cap : Nat) (rM rP rF rD : Nat → Int) (h9 : len ≤ 1000) (hcap : len ≤ cap) (hb : b < N) (hbX : b ≠ X) (J Jx : List Nat → World → Prop)
    (hY : ∀ pre (x : Nat) W, J pre W → pre.length < len → YieldAt F (n - 1) Try.prog l #[.int .i64 (x : Int), .agg #[.int .i64 (rM x), .int .i64 (rP x), .int .i64 (rF x), .int .i64 (rD x)]] W fun e W' =>
      (e = .returned (.bool true) ∧ J (pre ++ [x]) W' ∧ KX N X W W') ∨ (e = .returned (.bool false) ∧ Jx (pre ++ [x]) W'))
    (W : World) (hBs : W.cell? ⟨Bs, 0, none⟩ = some (.slice (some ⟨b, 0, none⟩) len cap)) (hBl : Bs < N) (hBX : Bs ≠ X)
    (hc0 : ∀ j, j < len → W.cell? ⟨b, j * 4, none⟩ = some (.int .i64 (rM j))) (hc1 : ∀ j, j < len → W.cell? ⟨b, j * 4 + 1, none⟩ = some (.int .i64 (rP j)))
    (hc2 : ∀ j, j < len → W.cell? ⟨b, j * 4 + 2, none⟩ = some (.int .i64 (rF j))) (hc3 : ∀ j, j < len → W.cell? ⟨b, j * 4 + 3, none⟩ = some (.int .i64 (rD j))) (h0 : J [] W) :
    CallsIn F n Try.prog 27 #[.func (.yield l) #[] #[], .pointer (some ⟨Bs, 0, none⟩)] W fun e W' => (∃ v, e = .returned v) ∧
      ((∃ ys, ys = upto (bk len) len ∧ J ys W') ∨ (∃ pre, (∃ k, k ≤ len ∧ pre = upto (bk len) k) ∧ Jx pre W')) := by
  refine callsIn_of_wp Try.func27 rfl h7 ?_ hro
  simp only [Try.ntmps27, List.size_toArray, List.length_cons, List.length_nil, Nat.reduceAdd, Nat.reduceSub, Array.replicate_succ, Array.replicate_zero, List.push_toArray, List.append_toArray, List.nil_append, List.cons_append]
  gi_wp2
  gi_loopw [3] (fun i wr => ∃ k : Nat, k ≤ len ∧ i = .int .i64 ((len : Int) - 1 - (k : Int)) ∧ J (upto (bk len) k) wr ∧ KX N X W wr)
    (fun i _ => (intOf i + 1).toNat)
  case atStart => exact ⟨0, Nat.zero_le _, by simp, h0, KX.refl _ _ _⟩
  case round =>
    obtain ⟨k, hk, rfl, hJs, hnx⟩ := hrel
    have hBs' := hnx.cell hBl hBX hBs
    by_cases hlt : k < len
    · have hx0 := hnx.cell hb hbX (hc0 (len - 1 - k) (by omega))
      have hx1 := hnx.cell hb hbX (hc1 (len - 1 - k) (by omega))
      have hx2 := hnx.cell hb hbX (hc2 (len - 1 - k) (by omega))
      have hx3 := hnx.cell hb hbX (hc3 (len - 1 - k) (by omega))
      obtain ⟨fn, tmps, assign, body, hy, hR⟩ := hY _ (bk len k) wr hJs (by rw [upto_length]; exact hlt)
      have hbk : bk len k = len - 1 - k := rfl
      have hup := upto_succ (bk len) k
      rw [hbk] at hy hR hup
      replace hup := Lib.hid hup
      clear hbk
      have e1 : (len : Int) - 1 - (k : Int) = ((len - 1 - k : Nat) : Int) := by omega
      rw [e1]
      obtain ⟨q, hq⟩ : ∃ q, q = len - 1 - k := ⟨_, rfl⟩
      rw [← hq] at hx0 hx1 hx2 hx3 hy hR hup e1 ⊢
      have hq1 : (q : Int) ≤ (len : Int) - 1 - (k : Int) := by omega
      have hq2 : (len : Int) - 1 - (k : Int) ≤ (q : Int) := by omega
      have hqq := Lib.hid hq
      clear hq
      replace e1 := Lib.hid e1
      have hqc : q < len := by omega
      generalize rM q = z0 at *
      generalize rP q = z1 at *
      generalize rF q = z2 at *
      generalize rD q = z3 at *
      gi_wp2
      refine hR.mono ?_
      rintro e W3 (⟨rfl, hJ3, hk3⟩ | ⟨rfl, hJx3⟩)
      · gi_wp2
        go_roundw
        case rel => exact ⟨k + 1, by omega, by (congr 1; push_cast; omega), by rw [hup.out]; exact hJ3, hnx.trans hk3⟩
        case measure => simp [intOf]
      · gi_wp2
        refine bodyPost_ret (results_none rfl _ _ _) rfl ?_
        exact ⟨⟨_, rfl⟩, .inr ⟨_, ⟨k + 1, by omega, hup.out.symm⟩, hJx3⟩⟩
    · obtain rfl : k = len := by omega
      gi_wp2
      go_end0
      exact ⟨⟨_, rfl⟩, .inl ⟨_, rfl, hJs⟩⟩
set_option maxHeartbeats 1000000 in
theorem back_in (F : Fence) (n : Nat) (h5 : F.fn 21) (hro : F.round = none) (a : Option Addr) (len cap : Nat) (w : World) :
    CallsIn F n Try.prog 21 #[.slice a len cap] w fun e w' => e = .returned (.func (.func 27) #[] #[.pointer (some ⟨w.heap.size, 0, none⟩)]) ∧ w' = w.alloc (.cells #[.slice a len cap] 25) := by
  refine callsIn_of_wp Try.func21 rfl h5 ?_ hro
  simp only [Try.ntmps21, List.size_toArray, List.length_cons, List.length_nil, Nat.reduceAdd, Nat.reduceSub, Array.replicate_succ, Array.replicate_zero, List.push_toArray, List.append_toArray, List.nil_append, List.cons_append]
  gi_wp2
  go_ret
  exact ⟨rfl, rfl⟩
theorem back_stops (F : Fence) (n : Nat) (h7 : F.fn 27) (hro : F.round = none) (hn : 1 ≤ n) (Bs N X b len cap : Nat) (rM rP rF rD : Nat → Int) (h9 : len ≤ 1000) (hcap : len ≤ cap) (hb : b < N) (hbX : b ≠ X) (hBl : Bs < N) (hBX : Bs ≠ X) (w : World) (hN : N ≤ w.heap.size)
    (hBs : w.cell? ⟨Bs, 0, none⟩ = some (.slice (some ⟨b, 0, none⟩) len cap))
    (hc0 : ∀ j, j < len → w.cell? ⟨b, j * 4, none⟩ = some (.int .i64 (rM j))) (hc1 : ∀ j, j < len → w.cell? ⟨b, j * 4 + 1, none⟩ = some (.int .i64 (rP j)))
    (hc2 : ∀ j, j < len → w.cell? ⟨b, j * 4 + 2, none⟩ = some (.int .i64 (rF j))) (hc3 : ∀ j, j < len → w.cell? ⟨b, j * 4 + 3, none⟩ = some (.int .i64 (rD j))) :
    SeqStopsK F n Try.prog 27 #[.pointer (some ⟨Bs, 0, none⟩)] (fun x : Nat => #[Value.int .i64 (x : Int), Value.agg #[.int .i64 (rM x), .int .i64 (rP x), .int .i64 (rF x), .int .i64 (rD x)]]) (KX N X) (fun ys => ys = upto (bk len) len)
      (fun pre => ∃ k, k ≤ len ∧ pre = upto (bk len) k) len w := fun l J Jx W hW _ _ hY h0 => by
  have hBs' := (hW.cell (p := ⟨Bs, 0, none⟩) (by show Bs < _; omega)).trans hBs
  exact back1_in F n h7 hro hn l Bs N X b len cap rM rP rF rD h9 hcap hb hbX J Jx hY W hBs' hBl hBX (fun j hj => (hW.cell (p := ⟨b, j * 4, none⟩) (by show b < _; omega)).trans (hc0 j hj)) (fun j hj => (hW.cell (p := ⟨b, j * 4 + 1, none⟩) (by show b < _; omega)).trans (hc1 j hj)) (fun j hj => (hW.cell (p := ⟨b, j * 4 + 2, none⟩) (by show b < _; omega)).trans (hc2 j hj)) (fun j hj => (hW.cell (p := ⟨b, j * 4 + 3, none⟩) (by show b < _; omega)).trans (hc3 j hj)) h0
/-- The number of the last place where q holds, counted from 1; 0 if there is none. -/
def lev (q : Nat → Bool) : Nat → Nat
  | 0 => 0
  | n + 1 => if q n then n + 1 else lev q n
theorem lev_le (q : Nat → Bool) (n : Nat) : lev q n ≤ n := by
  induction n with
  | zero => exact Nat.le_refl _
  | succ n ih => unfold lev; split <;> omega
theorem lev_at (q : Nat → Bool) (n : Nat) (h : lev q n ≠ 0) : q (lev q n - 1) = true := by
  induction n with
  | zero => exact absurd rfl h
  | succ n ih =>
    unfold lev at h ⊢
    split
    · assumption
    · rename_i hq; rw [if_neg hq] at h; exact ih h
theorem lev_not (q : Nat → Bool) (n j : Nat) (h1 : lev q n ≤ j) (h2 : j < n) : q j = false := by
  induction n with
  | zero => omega
  | succ n ih =>
    unfold lev at h1
    split at h1
    · omega
    · rename_i hq
      by_cases e : j = n
      · subst e; simpa using hq
      · exact ih h1 (by omega)
theorem lev_of (q : Nat → Bool) (n v : Nat) (h1 : v ≤ n) (h2 : v ≠ 0 → q (v - 1) = true) (h3 : ∀ j, v ≤ j → j < n → q j = false) : lev q n = v := by
  have a1 := lev_le q n
  by_cases e : lev q n = v
  · exact e
  · rcases Nat.lt_or_gt_of_ne e with h | h
    · have := lev_not q n (v - 1) (by omega) (by omega)
      rw [h2 (by omega)] at this; cases this
    · have := h3 (lev q n - 1) (by omega) (by omega)
      rw [lev_at q n (by omega)] at this; cases this
end Ru
end Go.Proofs.Yticjmblajloefaa
