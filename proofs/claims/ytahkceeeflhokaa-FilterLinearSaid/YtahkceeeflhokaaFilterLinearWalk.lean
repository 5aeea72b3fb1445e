/- The walk of FilterLinear. -/
import Derived.Test.YtahkceeeflhokaaFilL
import Derived.Test.YtahkceeeflhokaaFilQ
import Derived.Deep.RegionHeld3
set_option linter.unusedVariables false
namespace Go.Proofs.Ytahkceeeflhokaa
open Go.RowKit Wi Dice
namespace Laws
open Fil
theorem left_cell {W w w' : World} {g : Nat} {a : Option Addr} {len cap : Nat} {zs : List Int} (l : Dice.Left W w w' g a len cap zs) {k o : Nat} {v : Value} (hne : k ≠ g) (hk : w.cell? ⟨k, o, none⟩ = some v) : w'.cell? ⟨k, o, none⟩ = some v :=
  (World.cell?_of_block (a := ⟨k, o, none⟩) (l.far.block k (World.block_lt_of_cell? w _ hk) (by simpa using hne))).trans hk
/-- The lists under way: multiples of Q, and their combination. -/
structure LF (Q c : Int) (k : Nat) (X Y S : List Int) : Prop where
  lx : X.length = k
  ly : Y.length = k
  ls : S.length = k
  dx : ∀ j, j < k → Q ∣ fn X j
  dy : ∀ j, j < k → Q ∣ fn Y j
  bx : ∀ j, j < k → -256 ≤ fn X j ∧ fn X j ≤ 256
  by_ : ∀ j, j < k → -256 ≤ fn Y j ∧ fn Y j ≤ 256
  eq : ∀ j, j < k → fn S j = fn X j + c * fn Y j
theorem LF.snoc {Q c : Int} {k : Nat} {X Y S : List Int} (h : LF Q c k X Y S) {x y : Int} (hx : Q ∣ x) (hy : Q ∣ y) (b1 : -256 ≤ x) (b2 : x ≤ 256) (b3 : -256 ≤ y) (b4 : y ≤ 256) : LF Q c (k + 1) (X ++ [x]) (Y ++ [y]) (S ++ [x + c * y]) := by
  obtain ⟨lx, ly, ls, dx, dy, bx, by', eq⟩ := h
  have cx : ∀ j, j < k + 1 → (j < k ∧ fn (X ++ [x]) j = fn X j ∧ fn (Y ++ [y]) j = fn Y j ∧ fn (S ++ [x + c * y]) j = fn S j) ∨ (j = k ∧ fn (X ++ [x]) j = x ∧ fn (Y ++ [y]) j = y ∧ fn (S ++ [x + c * y]) j = x + c * y) := fun j hj => by
    by_cases he : j < k
    · exact .inl ⟨he, fn_old X x j (by omega), fn_old Y y j (by omega), fn_old S _ j (by omega)⟩
    · obtain rfl : j = k := by omega
      refine .inr ⟨rfl, ?_, ?_, ?_⟩
      · have := fn_last X x; rwa [lx] at this
      · have := fn_last Y y; rwa [ly] at this
      · have := fn_last S (x + c * y); rwa [ls] at this
  refine ⟨by simp [lx], by simp [ly], by simp [ls], fun j hj => ?_, fun j hj => ?_, fun j hj => ?_, fun j hj => ?_, fun j hj => ?_⟩ <;> (rcases cx j hj with ⟨h0, h1, h2, h3⟩ | ⟨h0, h1, h2, h3⟩)
  · rw [h1]; exact dx j h0
  · rw [h1]; exact hx
  · rw [h2]; exact dy j h0
  · rw [h2]; exact hy
  · rw [h1]; exact bx j h0
  · rw [h1]; exact ⟨b1, b2⟩
  · rw [h2]; exact by' j h0
  · rw [h2]; exact ⟨b3, b4⟩
  · rw [h1, h2, h3]; exact eq j h0
  · rw [h1, h2, h3]
/-- The taps in memory. -/
def Tap (B b : Nat) (va : Option Addr) (vc : Nat) (l : List Int) (w : World) : Prop :=
  ∃ tb, va = some ⟨tb, 0, none⟩ ∧ B ≤ tb ∧ tb < b ∧ tb < w.heap.size ∧ l.length ≤ vc ∧ vc ≤ maxLen ∧ ∀ j, j < l.length → w.cell? ⟨tb, 0 + j, none⟩ = some (.int .i64 (fn l j))
theorem tap_of {B b vc : Nat} {va : Option Addr} {l : List Int} {w : World} (h : Buf.Own B w (.slice va l.length vc) (ints l)) (hn : 1 ≤ l.length) (hb : w.heap.size ≤ b) : Tap B b va vc l w := by
  rcases h with ⟨h, _⟩ | ⟨g, cap, e, hbb⟩
  · injection h with h1 h2 h3; omega
  · injection e with e1 e2 e3
    subst e1 e3
    rw [ints_len] at hbb
    refine ⟨g, rfl, hbb.base, Nat.lt_of_lt_of_le hbb.lt hb, hbb.lt, hbb.le, hbb.max, fun j hj => ?_⟩
    rw [Nat.zero_add, hbb.cells j hj]
    simp [ints, fn, List.getD_eq_getElem?_getD, List.getElem?_eq_getElem hj]
theorem Tap.sv {B b vc : Nat} {va : Option Addr} {l : List Int} {w : World} (h : Tap B b va vc l w) : SV w (.slice va l.length vc) l.length (fn l) := by
  obtain ⟨tb, rfl, _, _, h3, h4, h5, h6⟩ := h
  exact ⟨_, _, rfl, h4, h5, fun _ => ⟨tb, 0, rfl, h3, h6⟩⟩
theorem Tap.keep {B b vc : Nat} {va : Option Addr} {l : List Int} {w w' : World} (h : Tap B b va vc l w) (hk : ∀ k, B ≤ k → k < b → k < w.heap.size → w'.heap[k]? = w.heap[k]?) (hs : w.heap.size ≤ w'.heap.size) : Tap B b va vc l w' := by
  obtain ⟨tb, rfl, h1, h2, h3, h4, h5, h6⟩ := h
  exact ⟨tb, rfl, h1, h2, Nat.lt_of_lt_of_le h3 hs, h4, h5, fun j hj => (World.cell?_of_block (a := ⟨tb, 0 + j, none⟩) (hk tb h1 h2 h3)).trans (h6 j hj)⟩
/-- The memory while they are made. -/
structure LM (W : World) (d B b : Nat) (a0 : Option Addr) (len0 cap0 : Nat) (z0 : List Int) (s : Nat) (va : Option Addr) (vc : Nat) (l : List Int) (wr : World) (v1 v2 v3 : Value) (k : Nat) (X Y S : List Int) : Prop where
  di : Di W wr d a0 len0 cap0 z0
  db : d < B
  bb : B ≤ b
  blk : wr.heap[b]? = some (.cells #[.slice va l.length vc, .int .i64 1, .int .i64 s] 29 (0, 0))
  own : Tap B b va vc l wr
  r : R3 (b + 1) wr v1 v2 v3 k k k X Y S
theorem LM.below {W wr w' : World} {d B b : Nat} {a0 : Option Addr} {len0 cap0 : Nat} {z0 : List Int} {s : Nat} {va : Option Addr} {vc : Nat} {l : List Int} {v1 v2 v3 : Value} {k : Nat} {X Y S : List Int} (h : LM W d B b a0 len0 cap0 z0 s va vc l wr v1 v2 v3 k X Y S) (hb : Below wr.heap.size wr w') : LM W d B b a0 len0 cap0 z0 s va vc l w' v1 v2 v3 k X Y S :=
  ⟨h.di.below hb, h.db, h.bb, box3 h.blk hb, h.own.keep (fun k _ _ h3 => hb.block k h3) hb.size, h.r.below hb⟩
theorem LM.left {W wr w' : World} {d B b : Nat} {a0 : Option Addr} {len0 cap0 : Nat} {z0 : List Int} {s : Nat} {va : Option Addr} {vc : Nat} {l : List Int} {v1 v2 v3 : Value} {k : Nat} {X Y S : List Int} (h : LM W d B b a0 len0 cap0 z0 s va vc l wr v1 v2 v3 k X Y S) (hl : Dice.Left W wr w' d a0 len0 cap0 z0) : LM W d B b a0 len0 cap0 z0 s va vc l w' v1 v2 v3 k X Y S :=
  ⟨hl.di, h.db, h.bb, (hl.far.block b (Array.getElem?_eq_some_iff.1 h.blk).1 (by have := h.db; have := h.bb; simp; omega)).trans h.blk, h.own.keep (fun k h1 _ h3 => hl.far.block k h3 (by have := h.db; simp; omega)) hl.far.size, h.r.grown hl.far (by have := h.db; have := h.bb; omega)⟩
theorem di_past {W w w' : World} {g B : Nat} {a : Option Addr} {len cap : Nat} {zs : List Int} (h : Di W w g a len cap zs) (hb : Below B w w') (hg : g < B) : Di W w' g a len cap zs := by
  obtain ⟨p, hp, hk⟩ := h.blk
  exact ⟨h.base, Nat.lt_of_lt_of_le h.lt hb.size, h.bel.trans (hb.mono (by have := h.base; omega)), h.row, h.small, p, hp, (hb.block g hg).trans hk⟩
theorem LM.rows {W wr w' : World} {d B b : Nat} {a0 : Option Addr} {len0 cap0 : Nat} {z0 : List Int} {s : Nat} {va : Option Addr} {vc : Nat} {l : List Int} {v1 v2 v3 u1 u2 u3 : Value} {k k' : Nat} {X Y S X' Y' S' : List Int} (h : LM W d B b a0 len0 cap0 z0 s va vc l wr v1 v2 v3 k X Y S) (hb : Below (b + 1) wr w') (hr : R3 (b + 1) w' u1 u2 u3 k' k' k' X' Y' S') : LM W d B b a0 len0 cap0 z0 s va vc l w' u1 u2 u3 k' X' Y' S' :=
  ⟨di_past h.di hb (by have := h.db; have := h.bb; omega), h.db, h.bb, (hb.block b (by omega)).trans h.blk, h.own.keep (fun k _ h2 _ => hb.block k (by omega)) hb.size, hr⟩
theorem outs_len1n (T X : Nat → Int) (n s L : Nat) (num : Int) : (outs T X n s 1 num L).length = L - (n - 1) := by
  by_cases h : n - 1 ≤ L
  · exact outs_one_len T X n s num L h
  · rw [outs_zero T X n s 1 num L (by omega)]; simp; omega
theorem outs_at1n (T X : Nat → Int) (n s L i : Nat) (num : Int) (hi : i < L - (n - 1)) : fn (outs T X n s 1 num L) i = dot T X (n - 1 + i) n / 2 ^ s := outs_one_at T X n s num L i (by omega) hi
theorem dot_dvd (T X : Nat → Int) (i : Nat) (Q : Int) : ∀ k, (∀ j, j < k → Q ∣ X (i - j)) → Q ∣ dot T X i k := by
  intro k
  induction k with
  | zero => intro _; exact Int.dvd_zero _
  | succ k ih => intro h; exact Int.dvd_add (ih fun j hj => h j (by omega)) (Int.dvd_trans (h k (by omega)) (Int.dvd_mul_left _ _))
theorem dot_lin (T X Y S : Nat → Int) (i : Nat) (c : Int) : ∀ k, (∀ j, j < k → S (i - j) = X (i - j) + c * Y (i - j)) → dot T S i k = dot T X i k + c * dot T Y i k := by
  intro k
  induction k with
  | zero => intro _; simp [dot]
  | succ k ih =>
    intro h
    have a := ih fun j hj => h j (by omega)
    have b := h k (by omega)
    unfold dot
    rw [a, b, Int.mul_add, Int.mul_add, Int.mul_left_comm]
    omega
theorem div_lin (a b c Q : Int) (hQ : 1 ≤ Q) (ha : Q ∣ a) (hb : Q ∣ b) : (a + c * b) / Q = a / Q + c * (b / Q) := by
  obtain ⟨a', rfl⟩ := ha
  obtain ⟨b', rfl⟩ := hb
  have h : Q ≠ 0 := by omega
  rw [Int.mul_ediv_cancel_left _ h, Int.mul_ediv_cancel_left _ h, show Q * a' + c * (Q * b') = Q * (a' + c * b') by rw [Int.mul_add, Int.mul_left_comm]]
  exact Int.mul_ediv_cancel_left _ h
/-- What the outputs of the three lists have in common. -/
theorem lin_law {n s : Nat} {T : Nat → Int} {c : Int} {X Y S : List Int} (F : LF (2 ^ s) c 14 X Y S) (hq : (1 : Int) ≤ 2 ^ s) (hn : 1 ≤ n) (num : Int) (i : Nat) (hi : i < 14 - (n - 1)) :
    fn (outs T (fn S) n s 1 num 14) i = fn (outs T (fn X) n s 1 0 14) i + c * fn (outs T (fn Y) n s 1 0 14) i := by
  rw [outs_at1n _ _ _ _ _ _ _ hi, outs_at1n _ _ _ _ _ _ _ hi, outs_at1n _ _ _ _ _ _ _ hi, dot_lin T (fn X) (fn Y) (fn S) (n - 1 + i) c n (fun j hj => F.eq _ (by omega))]
  exact div_lin _ _ _ _ hq (dot_dvd _ _ _ _ _ fun j hj => F.dx _ (by omega)) (dot_dvd _ _ _ _ _ fun j hj => F.dy _ (by omega))
theorem later_law {n s : Nat} {T X : Nat → Int} (i : Nat) (hn : 1 ≤ n) (hi : i < 11 - (n - 1)) : fn (outs T (fun j => X (3 + j)) n s 1 3 11) i = fn (outs T X n s 1 0 14) (i + 3) := by
  rw [outs_at1n _ _ _ _ _ _ _ hi, outs_at1n _ _ _ _ _ _ _ (by omega)]
  congr 1
  exact dot_congr _ _ _ _ _ _ n fun j hj => ⟨rfl, by rw [show 3 + (n - 1 + i - j) = n - 1 + (i + 3) - j by omega]⟩
theorem one_of (x : Int) : ∀ u ∈ [Value.int .i64 x], u.oneCell' = true := by simp; rfl
theorem shl_bd (v : Int) (s : Nat) (h0 : -4 ≤ v) (h1 : v ≤ 4) (q1 : (1 : Int) ≤ 2 ^ s) (q2 : (2 : Int) ^ s ≤ 64) : -256 ≤ v * 2 ^ s ∧ v * 2 ^ s ≤ 256 := by
  have p := prod_bd v (2 ^ s) 64 (by omega) q2
  have := Int.mul_le_mul_of_nonneg_right (show max v (-v) ≤ 4 by omega) (show (0 : Int) ≤ 64 by decide)
  omega
set_option maxHeartbeats 8000000 in
set_option maxRecDepth 100000 in
theorem filterLinear_walk (a0 : Option Addr) (len0 cap0 : Nat) (z0 : List Int) (a1 : Int) (a2 : Int) (w : World) (w0 : Buf.IsRow .i64 w a0 len0 cap0 z0) (w1 : (Lit.int .u8 a1).wf = true) (w2 : (Lit.int .i8 a2).wf = true) :
    Calls Try.prog 3 #[.slice a0 len0 cap0, .int .u8 a1, .int .i8 a2] w fun e w' => e = .returned (.bool true) ∧ Below w.heap.size w w' := by
  obtain ⟨b0, b1⟩ := Ma.wf_u8 w1
  have b23 : -128 ≤ a2 ∧ a2 ≤ 127 := by have := w2; simp [Lit.wf, IntKind.min, IntKind.max, IntKind.bits, IntKind.signed] at this; omega
  obtain ⟨b2, b3⟩ := b23
  clear w1 w2
  obtain ⟨i0, hi, hz0, hz1, hz2⟩ := info_parts infoI
  by_cases hs : len0 ≤ 500
  · have hd : decide ((len0 : Int) ≤ 500) = true := by simp; omega
    go_enter Try.func3, Try.ntmps3
    go_wp2_with (first | (go_at_call 7; refine (light_any _ _ _ _).mono ?_; rintro e w1 ⟨rfl, rfl⟩; rw [hd]) | (go_at_call 9; refine (roll_any a0 len0 cap0 z0 _ w0 hs).mono ?_; rintro e w2 ⟨rfl, hdi⟩))
    refine (filter_any hdi).mono ?_
    rintro e w3 ⟨⟨v, l, fac, s, rfl, ho, fg, hl5, hf3, hs6⟩, hl⟩
    obtain ⟨va, vc, rfl⟩ := own_len ho
    rw [ints_len] at ho ⊢
    have hdB := hdi.lt
    have h23 : w2.heap.size ≤ w3.heap.size := hl.far.size
    have M0 : Hid (LM w1 w1.heap.size w2.heap.size w3.heap.size a0 len0 cap0 z0 s va vc l (w3.alloc (.cells #[.slice va l.length vc, .int .i64 1, .int .i64 s] 29)) (.slice none 0 0) (.slice none 0 0) (.slice none 0 0) 0 [] [] []) := Lib.hid
      ⟨hl.di.below (new_block _), hdB, h23, heap_alloc_new _ _, (tap_of ho fg.n1 (Nat.le_refl _)).keep (fun k _ _ h3 => heap_alloc_old _ _ h3) (by simp), R3.nil _ _⟩
    have FG1 := Lib.hid (fg.fac 1 (by decide) (by decide))
    have n1 := fg.n1
    have F0 : Hid (LF (2 ^ s) a2 0 [] [] []) := Lib.hid ⟨rfl, rfl, rfl, fun j hj => by omega, fun j hj => by omega, fun j hj => by omega, fun j hj => by omega, fun j hj => by omega⟩
    obtain ⟨q1, q0⟩ := pow_bd30 s (by omega)
    have q2 : (2 : Int) ^ s ≤ 64 := by
      have h1 : (2 : Nat) ^ s ≤ 2 ^ 6 := Nat.pow_le_pow_right (by decide) hs6
      have e : ((2 ^ s : Nat) : Int) = (2 : Int) ^ s := by rw [Int.natCast_pow]; rfl
      have e6 : (2 : Nat) ^ 6 = 64 := by decide
      omega
    clear hl hdi ho fg
    go_wp2_with fail
    generalize w3.alloc (.cells #[.slice va l.length vc, .int .i64 1, .int .i64 s] 29) = w4 at *
    have hbd : w3.heap.size ≠ w1.heap.size := by omega
    go_loopw [9, 10, 11, 12] (fun u1 u2 u3 c wr => ∃ (k : Nat) (X Y S : List Int), k ≤ 14 ∧ c = .int .i64 k ∧ Hid (LF (2 ^ s) a2 k X Y S) ∧ Hid (LM w1 w1.heap.size w2.heap.size w3.heap.size a0 len0 cap0 z0 s va vc l wr u1 u2 u3 k X Y S)) (fun _ _ _ c _ => 14 - (intOf c).toNat)
    case atStart => exact ⟨0, [], [], [], by omega, rfl, F0, M0⟩
    case round =>
      clear F0 M0
      obtain ⟨k, X, Y, S, hk, rfl, F, M⟩ := hrel
      by_cases hlt : k < 14
      · go_wp2_with fail
        obtain ⟨_, _, x2⟩ := cells3 M.out.blk
        go_region_held3 (fun w' => w'.cell? ⟨w3.heap.size, 2, none⟩ = some (.int .i64 s))
          (first
            | ((with_reducible refine left_cell hl hbd ?_) <;> (with_reducible assumption))
            | go_keep)
          ((first
            | (go_at_call 11; (with_reducible refine (next_any 9 M1.out.di (by omega) (by omega)).mono ?_); rintro r w6 ⟨⟨y, rfl, y0, y1⟩, hl⟩; have M2 := Lib.hid (M1.out.left hl); have yb := shl_bd (y - 4) s (by omega) (by omega) q1 q2)
            | (go_at_call 11; (with_reducible refine (next_any 9 (M1.out.di.below (Below.refl _ _).drew) (by omega) (by omega)).mono ?_); rintro r w6 ⟨⟨y, rfl, y0, y1⟩, hl⟩; have M2 := Lib.hid ((M1.out.below (Below.refl _ _).drew).left hl); have yb := shl_bd (y - 4) s (by omega) (by omega) q1 q2)
            | (go_at_call 11; (with_reducible refine (next_any 9 M.out.di (by omega) (by omega)).mono ?_); rintro r w5 ⟨⟨x, rfl, x0, x1⟩, hl⟩; have M1 := Lib.hid (M.out.left hl); have xb := shl_bd (x - 4) s (by omega) (by omega) q1 q2)
            | (go_at_call 11; (with_reducible refine (next_any 9 (M.out.di.below (Below.refl _ _).drew) (by omega) (by omega)).mono ?_); rintro r w5 ⟨⟨x, rfl, x0, x1⟩, hl⟩; have M1 := Lib.hid ((M.out.below (Below.refl _ _).drew).left hl); have xb := shl_bd (x - 4) s (by omega) (by omega) q1 q2)))
        have ex : IntKind.i64.wrap (IntKind.i64.wrap (x - 4) * 2 ^ min (IntKind.u64.wrap (s : Int)).toNat 64) = (x - 4) * 2 ^ s := by
          rw [IntWalk.i64_in (x - 4) ⟨by omega, by omega⟩, IntWalk.u64_in (s : Int) ⟨by omega, by omega⟩, show min ((s : Int)).toNat 64 = s by omega]
          exact IntWalk.i64_in _ ⟨by omega, by omega⟩
        have ey : IntKind.i64.wrap (IntKind.i64.wrap (y - 4) * 2 ^ min (IntKind.u64.wrap (s : Int)).toNat 64) = (y - 4) * 2 ^ s := by
          rw [IntWalk.i64_in (y - 4) ⟨by omega, by omega⟩, IntWalk.u64_in (s : Int) ⟨by omega, by omega⟩, show min ((s : Int)).toNat 64 = s by omega]
          exact IntWalk.i64_in _ ⟨by omega, by omega⟩
        rw [ex, ey]
        have dx : Hid ((2 : Int) ^ s ∣ (x - 4) * 2 ^ s) := Lib.hid ⟨x - 4, Int.mul_comm _ _⟩
        have dy : Hid ((2 : Int) ^ s ∣ (y - 4) * 2 ^ s) := Lib.hid ⟨y - 4, Int.mul_comm _ _⟩
        clear ex ey M M1 x2
        generalize (x - 4) * 2 ^ s = xv at *
        generalize (y - 4) * 2 ^ s = yv at *
        have pc := prod_bd a2 yv 256 (by omega) (by omega)
        have pc2 : max a2 (-a2) * 256 ≤ 128 * 256 := Int.mul_le_mul_of_nonneg_right (by omega) (by decide)
        have pc3 : -32768 ≤ a2 * yv ∧ a2 * yv ≤ 32768 := by omega
        have FN := Lib.hid (F.out.snoc dx.out dy.out xb.1 xb.2 yb.1 yb.2)
        have m1 : Hid (k + 1 ≤ maxLen) := Lib.hid (by unfold maxLen; omega)
        have m2 : Hid ((k + 1) * 8 ≤ 140737488355328) := Lib.hid (by omega)
        have hb6 : Hid (w3.heap.size + 1 ≤ w6.heap.size) := Lib.hid (Array.getElem?_eq_some_iff.1 M2.out.blk).1
        have RA := Lib.hid M2.out.r
        have W1 : Hid (Below (w3.heap.size + 1) w6 w6) := Lib.hid (Below.refl _ _)
        clear pc pc2 F dx dy
        go_wp2_with (first
          | (at_builtin; refine wpList_append_lies _ rfl _ _ 22 rfl (w3.heap.size + 1) 3 i0 (.int .i64 0) 1 8 Try.underlying22 hi hz0 hz1 hz2 rfl (by decide) u9 k (ints X) rfl (row_below RA.out.o1 (new_block _)) ⟨w6.heap.size, 0, none⟩ 1 1 [.int .i64 xv] rfl rfl (World.news_of_block (cs := #[.int .i64 xv]) (heap_alloc_new w6 _)) (one_of _) (by decide) m1.out m2.out (by have := W1.out.size; have := hb6.out; simp; omega) _ rfl ?_; intro g1 c1 w7 hown hgrow hat _; have RB := Lib.hid ((RA.out.below (new_block (.cells #[.int .i64 xv] 3))).one hgrow hat hown); have W2 := Lib.hid ((W1.out.alloc (by have := W1.out.size; have := hb6.out; omega) (.cells #[.int .i64 xv] 3)).grown hgrow (by have := W1.out.size; have := hb6.out; simp; omega) (fun q hq => (RA.out.o1.lt q hq).1)); clear hown hgrow hat)
          | (at_builtin; refine wpList_append_lies _ rfl _ _ 22 rfl (w3.heap.size + 1) 3 i0 (.int .i64 0) 1 8 Try.underlying22 hi hz0 hz1 hz2 rfl (by decide) u10 k (ints Y) rfl (row_below RB.out.o2 (new_block _)) ⟨w7.heap.size, 0, none⟩ 1 1 [.int .i64 yv] rfl rfl (World.news_of_block (cs := #[.int .i64 yv]) (heap_alloc_new w7 _)) (one_of _) (by decide) m1.out m2.out (by have := W2.out.size; have := hb6.out; simp; omega) _ rfl ?_; intro g2 c2 w8 hown hgrow hat _; have RC := Lib.hid ((RB.out.below (new_block (.cells #[.int .i64 yv] 3))).two hgrow hat hown); have W3 := Lib.hid ((W2.out.alloc (by have := W2.out.size; have := hb6.out; omega) (.cells #[.int .i64 yv] 3)).grown hgrow (by have := W2.out.size; have := hb6.out; simp; omega) (fun q hq => (RB.out.o2.lt q hq).1)); clear hown hgrow hat)
          | (at_builtin; refine wpList_append_lies _ rfl _ _ 22 rfl (w3.heap.size + 1) 3 i0 (.int .i64 0) 1 8 Try.underlying22 hi hz0 hz1 hz2 rfl (by decide) u11 k (ints S) rfl (row_below RC.out.o3 (new_block _)) ⟨w8.heap.size, 0, none⟩ 1 1 [.int .i64 (xv + a2 * yv)] rfl rfl (World.news_of_block (cs := #[.int .i64 (xv + a2 * yv)]) (heap_alloc_new w8 _)) (one_of _) (by decide) m1.out m2.out (by have := W3.out.size; have := hb6.out; simp; omega) _ rfl ?_; intro g3 c3 w9 hown hgrow hat _; have RD := Lib.hid ((RC.out.below (new_block (.cells #[.int .i64 (xv + a2 * yv)] 3))).three hgrow hat hown); have W4 := Lib.hid ((W3.out.alloc (by have := W3.out.size; have := hb6.out; omega) (.cells #[.int .i64 (xv + a2 * yv)] 3)).grown hgrow (by have := W3.out.size; have := hb6.out; simp; omega) (fun q hq => (RC.out.o3.lt q hq).1)); clear hown hgrow hat))
        have MN := Lib.hid (M2.out.rows W4.out RD.out)
        clear RA RB RC RD M2
        go_roundw
        case rel => exact ⟨k + 1, _, _, _, by omega, by go_num, FN, MN⟩
        case measure => simp [intOf]; omega
      · obtain rfl : k = 14 := by omega
        obtain ⟨hX14, SX⟩ := sv_row M.out.r.o1
        obtain ⟨hY14, SY⟩ := sv_row M.out.r.o2
        obtain ⟨hS14, SS⟩ := sv_row M.out.r.o3
        obtain ⟨xb, xc, rfl, _, xlt⟩ := M.out.r.o1.form (by decide)
        obtain ⟨ya, yc, rfl, yc1, yc2, _⟩ := id SY
        obtain ⟨sa, sc, rfl, sc1, sc2, _⟩ := id SS
        have hxc : 14 ≤ xc := by obtain ⟨_, _, h, h', _⟩ := id SX; injection h with _ _ h; omega
        have hxm : Hid (xc ≤ maxLen) := Lib.hid (by obtain ⟨_, _, h, _, h', _⟩ := id SX; injection h with _ _ h; subst h; exact h')
        have SX3 : Hid (SV wr (.slice (some ⟨xb, 3, none⟩) 11 (xc - 3)) 11 (fun j => fn X (3 + j))) := Lib.hid
          ⟨_, _, rfl, by omega, Nat.le_trans (Nat.sub_le _ _) hxm.out, fun _ => ⟨xb, 3, rfl, xlt, fun j hj => by
            obtain ⟨b', off, h, hc⟩ := SX.at (3 + j) (by omega)
            injection h with h; injection h with h1 h2; subst h1 h2
            rw [Nat.zero_add] at hc; exact hc⟩⟩
        have BX : Hid (∀ j, j < 14 → -1073741823 ≤ fn X j ∧ fn X j ≤ 1073741823) := Lib.hid fun j hj => by have := F.out.bx j hj; omega
        have BY : Hid (∀ j, j < 14 → -1073741823 ≤ fn Y j ∧ fn Y j ≤ 1073741823) := Lib.hid fun j hj => by have := F.out.by_ j hj; omega
        have BS : Hid (∀ j, j < 14 → -1073741823 ≤ fn S j ∧ fn S j ≤ 1073741823) := Lib.hid fun j hj => by
          have h1 := F.out.bx j hj; have h2 := F.out.by_ j hj; rw [F.out.eq j hj]
          have := prod_bd a2 (fn Y j) 256 (by omega) (by omega)
          have : max a2 (-a2) * 256 ≤ 128 * 256 := Int.mul_le_mul_of_nonneg_right (by omega) (by decide)
          omega
        have LL := Lib.hid fun i hi => lin_law (T := fn l) F.out q1 n1 a1 i hi
        have LT := Lib.hid fun i hi => later_law (n := l.length) (s := s) (T := fn l) (X := fn X) i n1 hi
        have SX' := Lib.hid SX
        have SY' := Lib.hid SY
        have SS' := Lib.hid SS
        obtain ⟨x0, x1, x2⟩ := cells3 M.out.blk
        clear SX SY SS F hX14 hY14 hS14 xlt yc2 sc2
        go_wp2_with fail
        refine (apply_any 0 M.out.own.sv SX'.out FG1.out (by decide) BX.out (by decide) (by decide)).mono ?_
        rintro e w10 ⟨⟨pv, rfl, hp⟩, hb⟩
        have BW := Lib.hid hb
        have SP := Lib.hid (sv_own hp)
        rw [outs_len1n] at SP
        clear hb hp x0 x1 x2
        obtain ⟨x0, x1, x2⟩ := cells3 (box3 M.out.blk BW.out)
        go_wp2_with fail
        refine (apply_any 0 (M.out.own.sv.below BW.out) (SY'.out.below BW.out) FG1.out (by decide) BY.out (by decide) (by decide)).mono ?_
        rintro e w11 ⟨⟨qv, rfl, hq⟩, hb⟩
        replace BW := Lib.hid (Buf.then_ BW.out hb)
        have SQ := Lib.hid (sv_own hq)
        rw [outs_len1n] at SQ
        replace SP := Lib.hid (SP.out.below hb)
        clear hb hq x0 x1 x2
        obtain ⟨x0, x1, x2⟩ := cells3 (box3 M.out.blk BW.out)
        go_wp2_with fail
        refine (apply_any a1 (M.out.own.sv.below BW.out) (SS'.out.below BW.out) FG1.out (by decide) BS.out b0 (by omega)).mono ?_
        rintro e w12 ⟨⟨rv, rfl, hr⟩, hb⟩
        replace BW := Lib.hid (Buf.then_ BW.out hb)
        have SR := Lib.hid (sv_own hr)
        rw [outs_len1n] at SR
        replace SP := Lib.hid (SP.out.below hb)
        replace SQ := Lib.hid (SQ.out.below hb)
        clear hb hr x0 x1 x2
        obtain ⟨x0, x1, x2⟩ := cells3 (box3 M.out.blk BW.out)
        have hxne : ¬ xc = 3 := by omega
        have AL := Lib.hid fun w' (hb : Below w12.heap.size w12 w') => apply_any 3 (M.out.own.sv.below (Buf.then_ BW.out hb)) (SX3.out.below (Buf.then_ BW.out hb)) FG1.out (by decide) (fun j hj => BX.out (3 + j) (by omega)) (by decide) (by decide)
        have TW := Lib.hid (box3 M.out.blk BW.out)
        go_wp2_with fail
        go_region_held3 (fun w' => w'.cell? ⟨w3.heap.size, 0, none⟩ = some (.slice va l.length vc) ∧ w'.cell? ⟨w3.heap.size, 1, none⟩ = some (.int .i64 1) ∧ w'.cell? ⟨w3.heap.size, 2, none⟩ = some (.int .i64 s))
          (first
            | (go_split_ands; ((with_reducible refine ⟨x0', x1', x2'⟩)))
            | go_keep)
          ((first
            | (go_at_call 12; (with_reducible refine (AL.out _ (Below.refl _ _).drew).mono ?_); rintro r w13 ⟨⟨lv, rfl, hlv⟩, hb13⟩; obtain ⟨x0', x1', x2'⟩ := cells3 (box3 (w := w12.drew) TW.out hb13); have W13 : Hid (Below w12.heap.size w12 w13) := Lib.hid (Buf.then_ (Below.refl _ _).drew hb13))
            | (go_at_call 12; (with_reducible refine (AL.out _ (Below.refl _ _)).mono ?_); rintro r w13 ⟨⟨lv, rfl, hlv⟩, hb13⟩; obtain ⟨x0', x1', x2'⟩ := cells3 (box3 TW.out hb13); have W13 : Hid (Below w12.heap.size w12 w13) := Lib.hid hb13)))
        have SL := Lib.hid (sv_own hlv)
        rw [outs_len1n] at SL
        replace BW := Lib.hid (Buf.then_ BW.out W13.out)
        replace SP := Lib.hid (SP.out.below W13.out)
        replace SQ := Lib.hid (SQ.out.below W13.out)
        replace SR := Lib.hid (SR.out.below W13.out)
        have PB := Lib.hid fun i (hi : i < 14 - (l.length - 1)) => FG1.out.out (fn X) (l.length - 1 + i) (fun j hj => BX.out _ (by omega))
        have QB := Lib.hid fun i (hi : i < 14 - (l.length - 1)) => FG1.out.out (fn Y) (l.length - 1 + i) (fun j hj => BY.out _ (by omega))
        have PB' : Hid (∀ i, i < 14 - (l.length - 1) → -1073741823 ≤ fn (outs (fn l) (fn X) l.length s 1 0 14) i ∧ fn (outs (fn l) (fn X) l.length s 1 0 14) i ≤ 1073741823) := Lib.hid fun i hi => by rw [outs_at1n _ _ _ _ _ _ _ hi]; exact PB.out i hi
        have QB' : Hid (∀ i, i < 14 - (l.length - 1) → -1073741823 ≤ fn (outs (fn l) (fn Y) l.length s 1 0 14) i ∧ fn (outs (fn l) (fn Y) l.length s 1 0 14) i ≤ 1073741823) := Lib.hid fun i hi => by rw [outs_at1n _ _ _ _ _ _ _ hi]; exact QB.out i hi
        obtain ⟨m, hm⟩ : ∃ m, 14 - (l.length - 1) = m := ⟨_, rfl⟩
        obtain ⟨m3, hm3⟩ : ∃ m3, 11 - (l.length - 1) = m3 := ⟨_, rfl⟩
        rw [hm] at SP SQ SR LL PB' QB'
        rw [hm3] at SL LT
        obtain rfl : m = m3 + 3 := by omega
        have em1 : (15 : Int) - (l.length : Int) = (m3 : Int) + 3 := by omega
        have em2 : max ((m3 : Int) + 3 - 3) 0 = (m3 : Int) := by omega
        have em3 : ((m3 : Int) + 3 == (m3 : Int) + 3) = true := by simp
        have em4 : ((m3 : Int) == (m3 : Int)) = true := by simp
        have hm14 : m3 + 3 ≤ 14 := by omega
        have hm310 : m3 ≤ 11 := by omega
        generalize fn (outs (fn l) (fn S) l.length s 1 a1 14) = Rf at *
        generalize fn (outs (fn l) (fun j => fn X (3 + j)) l.length s 1 3 11) = Lf at *
        generalize fn (outs (fn l) (fn X) l.length s 1 0 14) = Pf at *
        generalize fn (outs (fn l) (fn Y) l.length s 1 0 14) = Qf at *
        obtain ⟨pa, pc, rfl, _⟩ := id SP.out
        obtain ⟨qa, qc, rfl, _⟩ := id SQ.out
        obtain ⟨ra, rc, rfl, _⟩ := id SR.out
        obtain ⟨la, lc, rfl, _⟩ := id SL.out
        clear hb13 hlv W13 x0 x1 x2 SX3 SX' SY' SS' BX BY BS AL TW PB QB hxm hxc hxne sc1 yc1
        go_wp2_with fail
        go_loopw [150] (fun c wr' => ∃ i : Nat, i ≤ m3 + 3 ∧ c = .int .i64 i ∧ Hid (∃ n, wr' = w13.drewN n)) (fun c _ => m3 + 3 - (intOf c).toNat)
        case atStart => exact ⟨0, by omega, rfl, Lib.hid ⟨0, rfl⟩⟩
        case round =>
          clear em1 em2
          obtain ⟨i, hi, rfl, hw⟩ := hrel
          obtain ⟨n, rfl⟩ := hw.out
          by_cases hlt : i < m3 + 3
          · obtain ⟨pb, poff, rfl, cp⟩ := SP.out.at i hlt
            obtain ⟨qb, qoff, rfl, cq⟩ := SQ.out.at i hlt
            obtain ⟨rb, roff, rfl, cr⟩ := SR.out.at i hlt
            rw [LL.out i hlt] at cr
            have pbd := PB'.out i hlt
            have qbd := QB'.out i hlt
            have h3 : i < 3 ∨ ∃ j, i = j + 3 := by
              by_cases h : i < 3
              · exact .inl h
              · exact .inr ⟨i - 3, by omega⟩
            have LT' := LT
            have pr := prod_bd a2 (Qf i) 1073741823 qbd.1 qbd.2
            have pr2 : max a2 (-a2) * 1073741823 ≤ 128 * 1073741823 := Int.mul_le_mul_of_nonneg_right (by omega) (by decide)
            have pr3 : -137438953344 ≤ a2 * Qf i ∧ a2 * Qf i ≤ 137438953344 := by omega
            clear pr pr2 hw
            rcases h3 with h3 | ⟨j, rfl⟩
            · have h3' : (i : Int) < 3 := by omega
              have d3 : decide ((3 : Int) ≤ (i : Int)) = false := by simp; omega
              generalize hP : Pf i = pv at *
              generalize Qf i = qv at *
              have eq1 : (pv + a2 * qv == pv + a2 * qv) = true := by simp
              have ew1 : IntKind.i64.wrap a2 = a2 := IntWalk.i64_in _ ⟨by omega, by omega⟩
              have ew2 : IntKind.i64.wrap (a2 * qv) = a2 * qv := IntWalk.i64_in _ ⟨by omega, by omega⟩
              have ew3 : IntKind.i64.wrap (pv + a2 * qv) = pv + a2 * qv := IntWalk.i64_in _ ⟨by omega, by omega⟩
              replace hP := Lib.hid hP
              clear LT LT' SL
              go_wp2_with fail
              go_quiet (fail)
              go_wp2_with fail
              first
                | exact ⟨⟨i + 1, by omega, by go_num, Lib.hid ⟨_, rfl⟩⟩, by simp [intOf]; omega⟩
                | (go_roundw
                   case rel => exact ⟨i + 1, by omega, by go_num, Lib.hid ⟨_, rfl⟩⟩
                   case measure => simp [intOf]; omega)
            · obtain ⟨lb, loff, rfl, cl⟩ := SL.out.at j (by omega)
              rw [LT.out j (by omega)] at cl
              rw [show ((j + 3 : Nat) : Int) = (j : Int) + 3 by omega]
              have hj3 : j < m3 := by omega
              have d3 : decide ((3 : Int) ≤ (j : Int) + 3) = true := by simp; omega
              have hj9 : (j : Int) + 3 - 3 = j := by omega
              have hj8 : IntKind.i64.wrap ((j : Int) + 3 - 3) = j := by rw [hj9]; exact IntWalk.i64_in _ ⟨by omega, by omega⟩
              generalize hP : Pf (j + 3) = pv at *
              generalize Qf (j + 3) = qv at *
              have eq1 : (pv + a2 * qv == pv + a2 * qv) = true := by simp
              have ew1 : IntKind.i64.wrap a2 = a2 := IntWalk.i64_in _ ⟨by omega, by omega⟩
              have ew2 : IntKind.i64.wrap (a2 * qv) = a2 * qv := IntWalk.i64_in _ ⟨by omega, by omega⟩
              have ew3 : IntKind.i64.wrap (pv + a2 * qv) = pv + a2 * qv := IntWalk.i64_in _ ⟨by omega, by omega⟩
              have eq2 : (pv == pv) = true := by simp
              replace hP := Lib.hid hP
              clear LT LT'
              go_wp2_with fail
              go_quiet (fail)
              go_wp2_with fail
              first
                | exact ⟨⟨j + 3 + 1, by omega, by go_num, Lib.hid ⟨_, rfl⟩⟩, by simp [intOf]; omega⟩
                | (go_roundw
                   case rel => exact ⟨j + 3 + 1, by omega, by go_num, Lib.hid ⟨_, rfl⟩⟩
                   case measure => simp [intOf]; omega)
          · obtain rfl : i = m3 + 3 := by omega
            clear hw SP SQ SR SL LL LT PB' QB' em3 em4
            have MZ := Lib.hid (M.out.below (Buf.below_drewN BW.out n))
            clear M BW
            go_wp2_with fail
            refine (samples_any 20 (by decide) (by decide) MZ.out.di).mono ?_
            rintro e w14 ⟨⟨zv, lz, rfl, hoz, hinz, hz1', hz2'⟩, hl⟩
            have hbz : w3.heap.size < (w13.drewN n).heap.size := (Array.getElem?_eq_some_iff.1 MZ.out.blk).1
            replace MZ := Lib.hid (MZ.out.left hl)
            have NZ := Lib.hid (sv_own hoz)
            obtain ⟨za, zc, rfl⟩ := own_len hoz
            rw [ints_len] at NZ ⊢
            have hinZ := Lib.hid hinz
            have OZ := Lib.hid hoz
            have hlz20 : lz.length ≤ 20 := hz2'
            clear hl hinz hz1' hz2'
            obtain ⟨x0, x1, x2⟩ := cells3 MZ.out.blk
            go_wp2_with fail
            refine (apply_any a1 MZ.out.own.sv NZ.out FG1.out (by omega) hinZ.out b0 (by omega)).mono ?_
            rintro e w15 ⟨⟨av, rfl, hav⟩, hb⟩
            have hb14 : w3.heap.size < w14.heap.size := (Array.getElem?_eq_some_iff.1 MZ.out.blk).1
            replace MZ := Lib.hid (MZ.out.below hb)
            replace OZ := Lib.hid (OZ.out.below hb)
            have SA := Lib.hid hav
            obtain ⟨aa, ac, rfl⟩ := own_len hav
            rw [ints_len, outs_len1n] at SA ⊢
            clear hb hav x0 x1 x2 NZ
            rw [ints_len] at OZ
            go_wp2_with fail
            refine (next_any 5 MZ.out.di (by omega) (by omega)).mono ?_
            rintro e w16 ⟨⟨fv, rfl, fv0, fv1⟩, hl⟩
            have hdb := MZ.out.db
            have hbb := MZ.out.bb
            replace MZ := Lib.hid (MZ.out.left hl)
            replace OZ := Lib.hid (own_grown OZ.out hl.far (by omega))
            replace SA := Lib.hid (own_grown SA.out hl.far (by omega))
            clear hl
            obtain ⟨x0, x1, x2⟩ := cells3 MZ.out.blk
            have fz := frozen_of_row w16 w3.heap.size 1 _ _ MZ.out.blk
            have TB := Lib.hid (set1 MZ.out.blk (.int .i64 (1 + fv)))
            have TT := Lib.hid (MZ.out.own.keep (w' := w16.setCell ⟨w3.heap.size, 1, none⟩ (.int .i64 (1 + fv))) (fun k _ h2 _ => Below.heap_setCell w16 _ _ k (fun e => by simp at e; omega)) (by simp [World.setCell]))
            have TZ := Lib.hid (own_far OZ.out hbz 1 (.int .i64 (1 + fv)))
            have TA := Lib.hid (own_far SA.out hb14 1 (.int .i64 (1 + fv)))
            have TW := Lib.hid (MZ.out.di.bel.setCell (p := ⟨w3.heap.size, 1, none⟩) (by have := MZ.out.di.base; show w1.heap.size ≤ w3.heap.size; omega) (.int .i64 (1 + fv)))
            clear MZ OZ SA
            go_wp2_with fail
            generalize w16.setCell ⟨w3.heap.size, 1, none⟩ (.int .i64 (1 + fv)) = w17 at *
            have AZ := Lib.hid (sv_own TZ.out)
            have FG2 := Lib.hid (FG1.out.fac (1 + fv) (by omega) (by omega))
            refine (apply_any a1 TT.out.sv AZ.out FG2.out (by omega) hinZ.out b0 (by omega)).mono ?_
            rintro e w18 ⟨⟨sv, rfl, hsv⟩, hb⟩
            have BW := Lib.hid hb
            have SS := Lib.hid (sv_own hsv)
            have SAv := Lib.hid ((sv_own TA.out).below hb)
            rw [outs_len1n] at SAv
            obtain ⟨ta, tc, rfl⟩ := own_len hsv
            rw [ints_len] at SS ⊢
            clear hb hsv x0 x1 x2 fz
            have AI : Hid (∀ j, j < lz.length - (l.length - 1) → -1073741823 ≤ fn (outs (fn l) (fn lz) l.length s 1 a1 lz.length) j ∧ fn (outs (fn l) (fn lz) l.length s 1 a1 lz.length) j ≤ 1073741823) := Lib.hid fun j hj => by
              rw [outs_at1n _ _ _ _ _ _ _ hj]; exact FG1.out.out (fn lz) _ (fun i hi => hinZ.out _ (by omega))
            go_wp2_with fail
            refine (refinr_yes SAv.out (by omega) AI.out).mono ?_
            rintro e w19 ⟨rfl, hb⟩
            replace BW := Lib.hid (Buf.then_ BW.out hb)
            replace SS := Lib.hid (SS.out.below hb)
            replace SAv := Lib.hid (SAv.out.below hb)
            clear hb AI
            have GY := Lib.hid fun i (hi : i < lz.length - (l.length - 1)) hm => outs_get (fn l) (fn lz) l.length s (1 + fv) a1 (l.length - 1 + i) lz.length (by omega) (by omega) hm
            have GN := Lib.hid fun i hm => outs_no (fn l) (fn lz) l.length s (1 + fv) a1 (l.length - 1 + i) hm
            have GA := Lib.hid fun i hi => outs_at1n (fn l) (fn lz) l.length s lz.length i a1 hi
            have GE : Hid ((outs (fn l) (fn lz) l.length s (1 + fv) a1 (l.length - 1 + (lz.length - (l.length - 1)))).length = (outs (fn l) (fn lz) l.length s (1 + fv) a1 lz.length).length) := Lib.hid (by
              by_cases h : l.length - 1 ≤ lz.length
              · rw [show l.length - 1 + (lz.length - (l.length - 1)) = lz.length by omega]
              · rw [outs_zero _ _ _ _ _ _ _ (by omega), outs_zero _ _ _ _ _ _ lz.length (by omega)])
            have G0 : Hid ((outs (fn l) (fn lz) l.length s (1 + fv) a1 (l.length - 1 + 0)).length = 0) := Lib.hid (by rw [outs_zero _ _ _ _ _ _ _ (by omega)]; rfl)
            have GL := Lib.hid fun k => outs_len (fn l) (fn lz) l.length s (1 + fv) a1 k
            have TLn : (outs (fn l) (fn lz) l.length s (1 + fv) a1 lz.length).length ≤ 20 := by have := GL.out lz.length; omega
            obtain ⟨m5, hm5⟩ : ∃ m5, lz.length - (l.length - 1) = m5 := ⟨_, rfl⟩
            rw [hm5] at SAv GE GY GA ⊢
            have hm520 : m5 ≤ 20 := by omega
            have hm5' := Lib.hid hm5
            clear hm5 TA TZ TT AZ FG1 FG2 hinZ
            go_wp2_with fail
            go_loopw [29, 222] (fun u c wr' => ∃ i : Nat, i ≤ m5 ∧ u = .int .i64 ((outs (fn l) (fn lz) l.length s (1 + fv) a1 (l.length - 1 + i)).length : Nat) ∧ c = .int .i64 i ∧ Hid (∃ q, wr' = w19.drewN q)) (fun _ c _ => m5 - (intOf c).toNat)
            case atStart => exact ⟨0, by omega, by rw [G0.out]; rfl, rfl, Lib.hid ⟨0, rfl⟩⟩
            case round =>
              obtain ⟨i, hi, rfl, rfl, hw⟩ := hrel
              obtain ⟨q, rfl⟩ := hw.out
              obtain ⟨x0, x1, x2⟩ := cells3 (box3 TB.out BW.out)
              by_cases hlt : i < m5
              · have hcl := GL.out (l.length - 1 + i)
                have hsum : Hid (a1 + (l.length : Int) - 1 + (i : Int) = a1 + ((l.length - 1 + i : Nat) : Int)) := Lib.hid (by omega)
                have hs0 : 0 ≤ a1 + (l.length : Int) - 1 + (i : Int) := by omega
                by_cases hm : (a1 + ((l.length - 1 + i : Nat) : Int)) % (1 + fv) = 0
                · have hm' : ((a1 + (l.length : Int) - 1 + (i : Int)) % (1 + fv) == 0) = true := by rw [hsum.out]; simpa using hm
                  obtain ⟨y1, y2, y3⟩ := GY.out i hlt hm
                  obtain ⟨sb, soff, rfl, cs⟩ := SS.out.at _ y2
                  obtain ⟨ab, aoff, rfl, ca⟩ := SAv.out.at i hlt
                  rw [y3] at cs
                  rw [GA.out i hlt] at ca
                  have y1' := Lib.hid y1
                  have hlow : l.length - 1 + i ≤ 100 := by omega
                  generalize (outs (fn l) (fn lz) l.length s (1 + fv) a1 lz.length).length = t at *
                  generalize (outs (fn l) (fn lz) l.length s (1 + fv) a1 (l.length - 1 + i)).length = cj at *
                  generalize dot (fn l) (fn lz) (l.length - 1 + i) l.length / 2 ^ s = dv at *
                  have edd : (dv == dv) = true := by simp
                  have dlt : decide ((t : Int) ≤ (cj : Int)) = false := by simp; omega
                  clear hm y1 y3 hw
                  go_wp2_with fail
                  go_quiet (fail)
                  go_wp2_with fail
                  first
                    | exact ⟨⟨i + 1, by omega, by rw [show l.length - 1 + (i + 1) = l.length - 1 + i + 1 by omega, y1'.out]; go_num, by go_num, Lib.hid ⟨_, rfl⟩⟩, by simp [intOf]; omega⟩
                    | (go_roundw
                       case rel => exact ⟨i + 1, by omega, by rw [show l.length - 1 + (i + 1) = l.length - 1 + i + 1 by omega, y1'.out]; go_num, by go_num, Lib.hid ⟨_, rfl⟩⟩
                       case measure => simp [intOf]; omega)
                · have hm' : ((a1 + (l.length : Int) - 1 + (i : Int)) % (1 + fv) == 0) = false := by rw [hsum.out]; simpa using hm
                  have y1' := Lib.hid (GN.out i hm)
                  clear hm hw
                  go_wp2_with fail
                  first
                    | exact ⟨⟨i + 1, by omega, by rw [show l.length - 1 + (i + 1) = l.length - 1 + i + 1 by omega, y1'.out], by go_num, Lib.hid ⟨_, rfl⟩⟩, by simp [intOf]; omega⟩
                    | (go_roundw
                       case rel => exact ⟨i + 1, by omega, by rw [show l.length - 1 + (i + 1) = l.length - 1 + i + 1 by omega, y1'.out], by go_num, Lib.hid ⟨_, rfl⟩⟩
                       case measure => simp [intOf]; omega)
              · obtain rfl : i = m5 := by omega
                rw [GE.out]
                generalize (outs (fn l) (fn lz) l.length s (1 + fv) a1 lz.length).length = t at *
                have ett : ((t : Int) == (t : Int)) = true := by simp
                have WW := Lib.hid (Buf.below_drewN (TW.out.trans (BW.out.mono TW.out.size)) q)
                clear hw GE GL GA GN SS SAv x0 x1 x2
                go_wp2_with (go_at_call 8; refine (Fil.sane_any _).mono ?_; rintro e w20 ⟨rfl, hb⟩)
                go_ret
                exact ⟨rfl, Buf.then_ WW.out hb⟩
  · have hd : decide ((len0 : Int) ≤ 500) = false := by simp; omega
    go_enter Try.func3, Try.ntmps3
    go_wp2_with (first | (go_at_call 7; refine (light_any _ _ _ _).mono ?_; rintro e w1 ⟨rfl, rfl⟩; rw [hd]) | (go_at_call 8; refine (Fil.sane_any _).mono ?_; rintro e w2 ⟨rfl, hb⟩))
    go_ret
    exact ⟨rfl, hb⟩
end Laws
end Go.Proofs.Ytahkceeeflhokaa
