/- Numbers as values: what the laws of algebra ask. -/
import Derived.Test.YtaaeegjinblpiaaDoorNtxP
import Derived.Test.YtaaeegjinblpiaaDoorNtxO
import Derived.Test.YtaaeegjinblpiaaDoorNtxS
set_option linter.unusedVariables false
set_option linter.unusedSimpArgs false
namespace Go.Proofs.YtaaeegjinblpiaaDoor
open Go.RowKit Dice
namespace Nt
/-- A value that is a readable number z, of at most k limbs. -/
def Num (w : World) (v : Value) (z : Int) (k : Nat) : Prop := ∃ (a : Option Addr) (n c : Nat) (L : List Int), v = .slice a n c ∧ Nr w a n c L ∧ Limbs L ∧ vl L = z ∧ n ≤ k
theorem Num.below {w w' : World} {v : Value} {z : Int} {k : Nat} (h : Num w v z k) (b : Below w.heap.size w w') : Num w' v z k := by
  obtain ⟨a, n, c, L, e, hn, hl, hv, hk⟩ := h
  exact ⟨a, n, c, L, e, hn.below b, hl, hv, hk⟩
theorem Num.nn {w : World} {v : Value} {z : Int} {k : Nat} (h : Num w v z k) : 0 ≤ z := by
  obtain ⟨a, n, c, L, e, hn, hl, hv, hk⟩ := h
  rw [← hv]; exact vl_nn L hl.rg
theorem Num.to {w : World} {v : Value} {z z' : Int} {k k' : Nat} (h : Num w v z k) (hz : z = z') (hk : k ≤ k') : Num w v z' k' := by
  obtain ⟨a, n, c, L, e, hn, hl, hv, hk2⟩ := h
  exact ⟨a, n, c, L, e, hn, hl, by rw [hv, hz], by omega⟩
theorem add_num {w : World} {u v : Value} {x y : Int} {j k : Nat} (h : Num w u x j) (h' : Num w v y k) (hj : j ≤ 63) (hk : k ≤ 63) :
    Calls Tryd.prog 7 #[u, v] w fun e w' => (∃ r, e = .returned (.tuple #[r, .int .i64 0]) ∧ Num w' r (x + y) (max j k + 1)) ∧ Below w.heap.size w w' := by
  obtain ⟨a, n, c, L, rfl, hn, hl, hv, hk1⟩ := h
  obtain ⟨a', n', c', M, rfl, hn', hl', hv', hk2⟩ := h'
  refine (add_any hn hn' hl hl' (by omega) (by omega)).mono ?_
  rintro e w1 ⟨⟨b, m, d, S, rfl, q1, q2, q3, q4⟩, hb⟩
  exact ⟨⟨_, rfl, _, _, _, S, rfl, q1, q2, by rw [q3, hv, hv'], by omega⟩, hb⟩
theorem sub_num {w : World} {u v : Value} {x y : Int} {j k : Nat} (h : Num w u x j) (h' : Num w v y k) (hj : j ≤ 64) (hk : k ≤ 64) (hle : y ≤ x) :
    Calls Tryd.prog 18 #[u, v] w fun e w' => (∃ r, e = .returned (.tuple #[r, .int .i64 0]) ∧ Num w' r (x - y) j) ∧ Below w.heap.size w w' := by
  obtain ⟨a, n, c, L, rfl, hn, hl, hv, hk1⟩ := h
  obtain ⟨a', n', c', M, rfl, hn', hl', hv', hk2⟩ := h'
  refine (sub_any hn hn' hl hl' (by omega) (by omega) (by omega)).mono ?_
  rintro e w1 ⟨⟨b, m, d, S, rfl, q1, q2, q3, q4⟩, hb⟩
  exact ⟨⟨_, rfl, _, _, _, S, rfl, q1, q2, by rw [q3, hv, hv'], by omega⟩, hb⟩
theorem mul_num {w : World} {u v : Value} {x y : Int} {j k : Nat} (h : Num w u x j) (h' : Num w v y k) (hj : j + k ≤ 64) :
    Calls Tryd.prog 8 #[u, v] w fun e w' => (∃ r, e = .returned (.tuple #[r, .int .i64 0]) ∧ Num w' r (x * y) (j + k)) ∧ Below w.heap.size w w' := by
  obtain ⟨a, n, c, L, rfl, hn, hl, hv, hk1⟩ := h
  obtain ⟨a', n', c', M, rfl, hn', hl', hv', hk2⟩ := h'
  refine (Mul_any hn hn' hl hl' (by omega)).mono ?_
  rintro e w1 ⟨⟨b, m, d, S, rfl, q1, q2, q3, q4⟩, hb⟩
  exact ⟨⟨_, rfl, _, _, _, S, rfl, q1, q2, by rw [q3, hv, hv'], by omega⟩, hb⟩
theorem same_num {w : World} {u v : Value} {x y : Int} {j k : Nat} (h : Num w u x j) (h' : Num w v y k) (e : x = y) :
    Calls Tryd.prog 19 #[u, v] w fun e w' => e = .returned (.bool true) ∧ Below w.heap.size w w' := by
  obtain ⟨a, n, c, L, rfl, hn, hl, hv, hk1⟩ := h
  obtain ⟨a', n', c', M, rfl, hn', hl', hv', hk2⟩ := h'
  have e2 : L = M := limbs_inj _ _ hl hl' (by rw [hv, hv', e])
  subst e2
  obtain rfl : n = n' := hn.len.trans hn'.len.symm
  refine (same_any hn hn').mono ?_
  rintro e w1 ⟨rfl, hm⟩
  exact ⟨rfl, bel_drew hm⟩
theorem from_num (n : Int) (w : World) (h0 : 0 ≤ n) (h1 : n ≤ 4611686018427387904) :
    Calls Tryd.prog 6 #[.int .i64 n] w fun e w' => (∃ r, e = .returned (.tuple #[r, .int .i64 0]) ∧ Num w' r n 3) ∧ Below w.heap.size w w' := by
  refine (from_any n w h0 h1).mono ?_
  rintro e w1 ⟨⟨a, m, c, L, rfl, q1, q2, q3, q4⟩, hb⟩
  exact ⟨⟨_, rfl, _, _, _, L, rfl, q1, q2, q3, q4⟩, hb⟩
set_option maxHeartbeats 1000000 in
theorem div_num {w : World} {u : Value} {x : Int} {j : Nat} (d : Int) (h : Num w u x j) (hj : j ≤ 64) (hd1 : 1 ≤ d) (hd9 : d ≤ 1073741823) :
    Calls Tryd.prog 10 #[u, .int .i64 d] w fun e w' => (∃ r, e = .returned (.tuple #[r, .int .i64 (x % d), .int .i64 0]) ∧ Num w' r (x / d) j) ∧ Below w.heap.size w w' := by
  obtain ⟨a, n, c, L, rfl, hn, hl, rfl, hk1⟩ := h
  have V := Lib.hid (valid_any hn hl (by omega))
  have D := Lib.hid (divide_any d hn hl hd1 hd9)
  obtain ⟨s1, s2, s3⟩ := div_spec hl d hd1
  obtain ⟨q, hq⟩ : ∃ q, q = vl L % d := ⟨_, rfl⟩
  rw [← hq] at D ⊢
  replace hq := Lib.hid hq
  have sl := tr_le (dq d L).1
  rw [dq_len] at sl
  have hnl := Lib.hid hn.len
  replace sl := Lib.hid sl
  replace hl := Lib.hid hl
  have d1 : ¬ d < 1 := by omega
  have d2 : ¬ 1073741824 ≤ d := by omega
  replace s1 := Lib.hid s1
  replace s2 := Lib.hid s2
  clear hn s3
  go_enter Tryd.func10, Tryd.ntmps10
  go_wp2_with fail
  refine V.out.mono ?_
  rintro e w1 ⟨rfl, hw⟩
  replace hw := hw.symm
  subst hw
  clear V
  go_wp2_with fail
  with_reducible refine D.out.mono ?_
  rintro e w2 ⟨⟨a', n', c', rfl, NR⟩, hb⟩
  have hnl' := Lib.hid NR.len
  go_wp2_with fail
  go_ret3
  exact ⟨⟨_, rfl, _, _, _, _, rfl, NR, s1.out, s2.out, by have := sl.out; have := hnl.out; have := hnl'.out; omega⟩, hb⟩
theorem nat_num {W w : World} {g : Nat} {a : Option Addr} {len cap : Nat} {zs : List Int} (N : Nat) (N' : Int) (hN : N' = (N : Int)) (h : Di W w g a len cap zs) (h9 : N ≤ 20) :
    Calls Tryd.prog 15 #[.pointer (some ⟨g, 0, none⟩), .int .i64 N'] w fun e w' => (∃ r x, e = .returned r ∧ Num w' r x N) ∧ Dice.Left W w w' g a len cap zs := by
  subst hN
  refine (nat_any N h h9).mono ?_
  rintro e w1 ⟨⟨a', n', c', L, rfl, q1, q2, q3⟩, hl⟩
  exact ⟨⟨_, _, rfl, _, _, _, L, rfl, q1, q2, rfl, q3⟩, hl⟩
theorem Num.left {W w w' : World} {g : Nat} {a : Option Addr} {len cap : Nat} {zs : List Int} {v : Value} {z : Int} {k : Nat} (h : Num w v z k) (d : Di W w g a len cap zs) (l : Dice.Left W w w' g a len cap zs) : Num w' v z k := by
  obtain ⟨b, n, c, L, e, hn, hl, hv, hk⟩ := h
  exact ⟨b, n, c, L, e, hn.left d l, hl, hv, hk⟩
end Nt
end Go.Proofs.YtaaeegjinblpiaaDoor
