/- The stages that the dice make. -/
import Derived.Test.YtmnafkfjmeoklaaFilC
import Derived.Test.YtmnafkfjmeoklaaFilL
import Derived.Lib.Builder
set_option linter.unusedVariables false
namespace Go.Proofs.Ytmnafkfjmeoklaa
open Go.RowKit Wi Dice
namespace Fil
/-- The cells of a stage. -/
def sc (k n0 n1 n2 d0 d1 d2 : Int) (v : Value) (fac s : Int) : Array Value := #[.int .i64 k, .int .i64 n0, .int .i64 n1, .int .i64 n2, .int .i64 d0, .int .i64 d1, .int .i64 d2, v, .int .i64 fac, .int .i64 s]
theorem cells10 {w : World} {g : Nat} {a b c d e f h i j k : Value} {t : TypeId} (hh : w.heap[g]? = some (.cells #[a, b, c, d, e, f, h, i, j, k] t (0, 0))) :
    (w.cell? ⟨g, 0, none⟩ = some a ∧ w.cell? ⟨g, 1, none⟩ = some b ∧ w.cell? ⟨g, 2, none⟩ = some c ∧ w.cell? ⟨g, 3, none⟩ = some d ∧ w.cell? ⟨g, 4, none⟩ = some e) ∧
    w.cell? ⟨g, 5, none⟩ = some f ∧ w.cell? ⟨g, 6, none⟩ = some h ∧ w.cell? ⟨g, 7, none⟩ = some i ∧ w.cell? ⟨g, 8, none⟩ = some j ∧ w.cell? ⟨g, 9, none⟩ = some k :=
  ⟨⟨cell_of_row w g 0 _ _ _ hh, cell_of_row w g 1 _ _ _ hh, cell_of_row w g 2 _ _ _ hh, cell_of_row w g 3 _ _ _ hh, cell_of_row w g 4 _ _ _ hh⟩,
   cell_of_row w g 5 _ _ _ hh, cell_of_row w g 6 _ _ _ hh, cell_of_row w g 7 _ _ _ hh, cell_of_row w g 8 _ _ _ hh, cell_of_row w g 9 _ _ _ hh⟩
theorem free10 {w : World} {g : Nat} {a b c d e f h i j k : Value} {t : TypeId} (hh : w.heap[g]? = some (.cells #[a, b, c, d, e, f, h, i, j, k] t (0, 0))) :
    (w.frozen? ⟨g, 0, none⟩ = false ∧ w.frozen? ⟨g, 1, none⟩ = false ∧ w.frozen? ⟨g, 2, none⟩ = false ∧ w.frozen? ⟨g, 3, none⟩ = false ∧ w.frozen? ⟨g, 4, none⟩ = false) ∧
    w.frozen? ⟨g, 5, none⟩ = false ∧ w.frozen? ⟨g, 6, none⟩ = false ∧ w.frozen? ⟨g, 7, none⟩ = false ∧ w.frozen? ⟨g, 8, none⟩ = false ∧ w.frozen? ⟨g, 9, none⟩ = false :=
  ⟨⟨frozen_of_row w g 0 _ _ hh, frozen_of_row w g 1 _ _ hh, frozen_of_row w g 2 _ _ hh, frozen_of_row w g 3 _ _ hh, frozen_of_row w g 4 _ _ hh⟩,
   frozen_of_row w g 5 _ _ hh, frozen_of_row w g 6 _ _ hh, frozen_of_row w g 7 _ _ hh, frozen_of_row w g 8 _ _ hh, frozen_of_row w g 9 _ _ hh⟩
theorem st_one {w : World} {b k : Nat} {C D : Array Value} {t : TypeId} (x : Value) (h : w.heap[b]? = some (.cells C t (0, 0))) (e : C.setIfInBounds k x = D) : (w.setCell ⟨b, k, none⟩ x).heap[b]? = some (.cells D t (0, 0)) := by
  subst e; exact heap_setCell_same w b k C t x h
theorem st10 {w : World} {b : Nat} {a0 a1 a2 a3 a4 a5 a6 a7 a8 a9 : Value} {t : TypeId} (h : w.heap[b]? = some (.cells #[a0, a1, a2, a3, a4, a5, a6, a7, a8, a9] t (0, 0))) (x0 x1 x2 x3 x4 x5 x6 x7 x8 x9 : Value) :
    ((((((((((w.setCell ⟨b, 0, none⟩ x0).setCell ⟨b, 1, none⟩ x1).setCell ⟨b, 2, none⟩ x2).setCell ⟨b, 3, none⟩ x3).setCell ⟨b, 4, none⟩ x4).setCell ⟨b, 5, none⟩ x5).setCell ⟨b, 6, none⟩ x6).setCell ⟨b, 7, none⟩ x7).setCell ⟨b, 8, none⟩ x8).setCell ⟨b, 9, none⟩ x9).heap[b]? = some (.cells #[x0, x1, x2, x3, x4, x5, x6, x7, x8, x9] t (0, 0)) := by
  have h0 := st_one (D := #[x0, a1, a2, a3, a4, a5, a6, a7, a8, a9]) (k := 0) x0 h rfl
  have h1 := st_one (D := #[x0, x1, a2, a3, a4, a5, a6, a7, a8, a9]) (k := 1) x1 h0 rfl
  have h2 := st_one (D := #[x0, x1, x2, a3, a4, a5, a6, a7, a8, a9]) (k := 2) x2 h1 rfl
  have h3 := st_one (D := #[x0, x1, x2, x3, a4, a5, a6, a7, a8, a9]) (k := 3) x3 h2 rfl
  have h4 := st_one (D := #[x0, x1, x2, x3, x4, a5, a6, a7, a8, a9]) (k := 4) x4 h3 rfl
  have h5 := st_one (D := #[x0, x1, x2, x3, x4, x5, a6, a7, a8, a9]) (k := 5) x5 h4 rfl
  have h6 := st_one (D := #[x0, x1, x2, x3, x4, x5, x6, a7, a8, a9]) (k := 6) x6 h5 rfl
  have h7 := st_one (D := #[x0, x1, x2, x3, x4, x5, x6, x7, a8, a9]) (k := 7) x7 h6 rfl
  have h8 := st_one (D := #[x0, x1, x2, x3, x4, x5, x6, x7, x8, a9]) (k := 8) x8 h7 rfl
  exact st_one (D := #[x0, x1, x2, x3, x4, x5, x6, x7, x8, x9]) (k := 9) x9 h8 rfl
theorem below10 (w : World) (b : Nat) (x0 x1 x2 x3 x4 x5 x6 x7 x8 x9 : Value) :
    Below b w ((((((((((w.setCell ⟨b, 0, none⟩ x0).setCell ⟨b, 1, none⟩ x1).setCell ⟨b, 2, none⟩ x2).setCell ⟨b, 3, none⟩ x3).setCell ⟨b, 4, none⟩ x4).setCell ⟨b, 5, none⟩ x5).setCell ⟨b, 6, none⟩ x6).setCell ⟨b, 7, none⟩ x7).setCell ⟨b, 8, none⟩ x8).setCell ⟨b, 9, none⟩ x9) :=
  let n := Nat.le_refl b
  (((((((((Below.refl b w).setCell (p := ⟨b, 0, none⟩) n x0).setCell (p := ⟨b, 1, none⟩) n x1).setCell (p := ⟨b, 2, none⟩) n x2).setCell (p := ⟨b, 3, none⟩) n x3).setCell (p := ⟨b, 4, none⟩) n x4).setCell (p := ⟨b, 5, none⟩) n x5).setCell (p := ⟨b, 6, none⟩) n x6).setCell (p := ⟨b, 7, none⟩) n x7).setCell (p := ⟨b, 8, none⟩) n x8 |>.setCell (p := ⟨b, 9, none⟩) n x9
theorem own10 {B b : Nat} {w : World} {v : Value} {xs : List Value} (h : Buf.Own (B + 1) w v xs) (hb : b < B) (x0 x1 x2 x3 x4 x5 x6 x7 x8 x9 : Value) :
    Buf.Own (B + 1) ((((((((((w.setCell ⟨b, 0, none⟩ x0).setCell ⟨b, 1, none⟩ x1).setCell ⟨b, 2, none⟩ x2).setCell ⟨b, 3, none⟩ x3).setCell ⟨b, 4, none⟩ x4).setCell ⟨b, 5, none⟩ x5).setCell ⟨b, 6, none⟩ x6).setCell ⟨b, 7, none⟩ x7).setCell ⟨b, 8, none⟩ x8).setCell ⟨b, 9, none⟩ x9) v xs :=
  own_set (own_set (own_set (own_set (own_set (own_set (own_set (own_set (own_set (own_set h hb 0 x0) hb 1 x1) hb 2 x2) hb 3 x3) hb 4 x4) hb 5 x5) hb 6 x6) hb 7 x7) hb 8 x8) hb 9 x9
/-- The taps of such a stage. -/
structure Taps (l : List Int) : Prop where
  n1 : 1 ≤ l.length
  bd : ∀ z ∈ l, 0 ≤ z ∧ z ≤ 4
  pos : 1 ≤ l.sum
theorem Taps.wrap {l : List Int} (h : Taps l) {y : Int} (y0 : 0 ≤ y) (y4 : y ≤ 3) : Taps (y :: l ++ [y]) := by
  refine ⟨by simp, fun z hz => ?_, ?_⟩
  · simp at hz
    rcases hz with rfl | hz | rfl
    · omega
    · exact h.bd z hz
    · omega
  · have := h.pos; simp; omega
theorem Taps.more {l : List Int} (h : Taps l) : Taps (l ++ [3]) := by
  refine ⟨by simp, fun z hz => ?_, ?_⟩
  · simp at hz
    rcases hz with hz | rfl
    · exact h.bd z hz
    · omega
  · have := h.pos; simp; omega
/-- A stage as a value. -/
def stage (k n0 n1 n2 d0 d1 d2 : Int) (v : Value) (fac s : Int) : Value := .agg (sc k n0 n1 n2 d0 d1 d2 v fac s)
/-- What Stage returns. -/
def Staged (B : Nat) (w : World) (e : Ending) : Prop :=
  (∃ k n0 n1 n2 d0 d1 d2, (k = 0 ∨ k = 1) ∧ e = .returned (stage k n0 n1 n2 d0 d1 d2 (.slice none 0 0) 0 0)) ∨
  (∃ v l fac, ∃ s : Nat, e = .returned (stage 2 0 0 0 0 0 0 v fac (s : Nat)) ∧ w.ownsRow B 3 1 v l.length (ints l) ∧ Taps l ∧ l.length ≤ 6 ∧ 1 ≤ fac ∧ fac ≤ 5 ∧ s ≤ 4)
/-- The memory while a stage is made. -/
structure StM (W w : World) (g b : Nat) (a : Option Addr) (len cap : Nat) (zs : List Int) (wr : World) (v : Value) (fac s : Int) (l : List Int) : Prop where
  h : Di W w g a len cap zs
  L : Dice.Left W w wr g a len cap zs
  bw : w.heap.size < b
  box : wr.heap[w.heap.size]? = some (.cells #[.int .i64 0, .int .i64 0, .int .i64 0, .int .i64 0, .int .i64 0, .int .i64 0, .int .i64 0, .slice none 0 0, .int .i64 0, .int .i64 0] 29 (0, 0))
  blk : wr.heap[b]? = some (.cells #[.int .i64 2, .int .i64 0, .int .i64 0, .int .i64 0, .int .i64 0, .int .i64 0, .int .i64 0, v, .int .i64 fac, .int .i64 s] 29 (0, 0))
  own : wr.ownsRow (w.heap.size + 1) 3 1 v l.length (ints l)
theorem one_i (x : Int) : ∀ u ∈ [Value.int .i64 x], u.oneCell' = true := by simp; rfl
theorem row_set {w : World} {B n b : Nat} {e : TypeId} {v : Value} {xs : List Value} (h : w.ownsRow B e 1 v n xs) (hb : v.ownBlock ≠ some b) (k : Nat) (u : Value) : (w.setCell ⟨b, k, none⟩ u).ownsRow B e 1 v n xs := by
  rcases h.2 with ⟨rfl, rfl⟩ | ⟨g, cap, cur, rfl, h1, hg, h2, h3, h4, h5⟩
  · exact ⟨h.1, .inl ⟨rfl, rfl⟩⟩
  · exact ⟨h.1, .inr ⟨g, cap, cur, rfl, h1, (Below.heap_setCell w _ _ g (fun e => hb (by subst e; rfl))).trans hg, h2, h3, h4, h5⟩⟩
theorem row_le {w : World} {B B' n : Nat} {e : TypeId} {v : Value} {xs : List Value} (h : w.ownsRow B e 1 v n xs) (hb : B' ≤ B) : w.ownsRow B' e 1 v n xs := by
  rcases h.2 with h2 | ⟨g, cap, cur, h0, h1, h2⟩
  · exact ⟨h.1, .inl h2⟩
  · exact ⟨h.1, .inr ⟨g, cap, cur, h0, Nat.le_trans hb h1, h2⟩⟩
theorem row10 {B b n : Nat} {w : World} {e : TypeId} {v : Value} {xs : List Value} (h : w.ownsRow B e 1 v n xs) (hb : v.ownBlock ≠ some b) (x0 x1 x2 x3 x4 x5 x6 x7 x8 x9 : Value) :
    ((((((((((w.setCell ⟨b, 0, none⟩ x0).setCell ⟨b, 1, none⟩ x1).setCell ⟨b, 2, none⟩ x2).setCell ⟨b, 3, none⟩ x3).setCell ⟨b, 4, none⟩ x4).setCell ⟨b, 5, none⟩ x5).setCell ⟨b, 6, none⟩ x6).setCell ⟨b, 7, none⟩ x7).setCell ⟨b, 8, none⟩ x8).setCell ⟨b, 9, none⟩ x9).ownsRow B e 1 v n xs :=
  row_set (row_set (row_set (row_set (row_set (row_set (row_set (row_set (row_set (row_set h hb 0 x0) hb 1 x1) hb 2 x2) hb 3 x3) hb 4 x4) hb 5 x5) hb 6 x6) hb 7 x7) hb 8 x8) hb 9 x9
theorem StM.out {W w wr : World} {g b : Nat} {a : Option Addr} {len cap : Nat} {zs : List Int} {v : Value} {fac s : Int} {l : List Int} (M : StM W w g b a len cap zs wr v fac s l) (x0 x1 x2 x3 x4 x5 x6 x7 x8 x9 : Value) :
    ((((((((((wr.setCell ⟨w.heap.size, 0, none⟩ x0).setCell ⟨w.heap.size, 1, none⟩ x1).setCell ⟨w.heap.size, 2, none⟩ x2).setCell ⟨w.heap.size, 3, none⟩ x3).setCell ⟨w.heap.size, 4, none⟩ x4).setCell ⟨w.heap.size, 5, none⟩ x5).setCell ⟨w.heap.size, 6, none⟩ x6).setCell ⟨w.heap.size, 7, none⟩ x7).setCell ⟨w.heap.size, 8, none⟩ x8).setCell ⟨w.heap.size, 9, none⟩ x9).ownsRow w.heap.size 3 1 v l.length (ints l) :=
  row10 (row_le M.own (by omega)) (fun e => by have := (M.own.lt _ e).1; omega) _ _ _ _ _ _ _ _ _ _
theorem StM.ne {W w wr : World} {g b : Nat} {a : Option Addr} {len cap : Nat} {zs : List Int} {v : Value} {fac s : Int} {l : List Int} (M : StM W w g b a len cap zs wr v fac s l) : v.ownBlock ≠ some b :=
  Lib.ownBlock_ne M.own M.blk (by decide)
theorem StM.left {W w wr w' : World} {g b : Nat} {a : Option Addr} {len cap : Nat} {zs : List Int} {v : Value} {fac s : Int} {l : List Int} (M : StM W w g b a len cap zs wr v fac s l) (hl : Dice.Left W wr w' g a len cap zs) : StM W w g b a len cap zs w' v fac s l :=
  ⟨M.h, M.L.trans hl, M.bw, (hl.far.block _ (Array.getElem?_eq_some_iff.1 M.box).1 (by have := M.h.lt; simp; omega)).trans M.box, (hl.far.block _ (Array.getElem?_eq_some_iff.1 M.blk).1 (by have := M.h.lt; have := M.bw; simp; omega)).trans M.blk, row_grown M.own hl.far (by have := M.h.lt; omega)⟩
theorem StM.put {W w wr w' : World} {g b : Nat} {a : Option Addr} {len cap : Nat} {zs : List Int} {v v' : Value} {fac s : Int} {l l' : List Int} (M : StM W w g b a len cap zs wr v fac s l) (hb : Below (w.heap.size + 1) wr w') (hk : w'.heap[b]? = wr.heap[b]?) (ho : w'.ownsRow (w.heap.size + 1) 3 1 v' l'.length (ints l')) :
    StM W w g b a len cap zs (w'.setCell ⟨b, 7, none⟩ v') v' fac s l' := by
  have hbw := M.bw
  have h1 := hk.trans M.blk
  refine ⟨M.h, Dice.Left.past M.h M.L ((hb.mono (by omega)).setCell (by show w.heap.size ≤ b; omega) _), hbw, ?_, st_one _ h1 rfl, row_set ho (Lib.ownBlock_ne ho h1 (by decide)) _ _⟩
  rw [Below.heap_setCell w' _ _ w.heap.size (fun e => by simp at e; omega)]; exact (hb.block _ (by omega)).trans M.box
set_option maxHeartbeats 4000000 in
set_option maxRecDepth 100000 in
theorem stage_any {W w : World} {d : Nat} {a : Option Addr} {len cap : Nat} {zs : List Int} (h : Di W w d a len cap zs) :
    Calls Try.prog 9 #[.pointer (some ⟨d, 0, none⟩)] w fun e w' => Staged w.heap.size w' e ∧ Dice.Left W w w' d a len cap zs := by
  obtain ⟨i0, hi, hz0, hz1, hz2⟩ := info_parts infoI
  have HD := Lib.hid h
  have hlt := h.lt
  have X0 := Lib.hid (heap_alloc_new w (.cells #[.int .i64 0, .int .i64 0, .int .i64 0, .int .i64 0, .int .i64 0, .int .i64 0, .int .i64 0, .slice none 0 0, .int .i64 0, .int .i64 0] 29))
  have L0 := Lib.hid ((Dice.Left.refl h).below (new_block (.cells #[.int .i64 0, .int .i64 0, .int .i64 0, .int .i64 0, .int .i64 0, .int .i64 0, .int .i64 0, .slice none 0 0, .int .i64 0, .int .i64 0] 29)))
  clear h
  go_enter Try.func9, Try.ntmps9
  go_wp2_with fail
  generalize w.alloc (.cells #[.int .i64 0, .int .i64 0, .int .i64 0, .int .i64 0, .int .i64 0, .int .i64 0, .int .i64 0, .slice none 0 0, .int .i64 0, .int .i64 0] 29) = w1 at *
  refine (next_any 3 L0.out.di (by omega) (by omega)).mono ?_
  rintro e w2 ⟨⟨k, rfl, k0, k1⟩, hl⟩
  replace X0 := Lib.hid ((hl.far.block w.heap.size (Array.getElem?_eq_some_iff.1 X0.out).1 (by simp; omega)).trans X0.out)
  replace L0 := Lib.hid (L0.out.trans hl)
  clear hl
  rcases (show k = 0 ∨ k = 1 ∨ k = 2 by omega) with rfl | rfl | rfl
  · go_wp2_with fail
    refine (next_any 9 L0.out.di (by omega) (by omega)).mono ?_
    rintro e w3 ⟨⟨x, rfl, x0, x1⟩, hl⟩
    replace X0 := Lib.hid ((hl.far.block w.heap.size (Array.getElem?_eq_some_iff.1 X0.out).1 (by simp; omega)).trans X0.out)
    replace L0 := Lib.hid (L0.out.trans hl)
    clear hl
    go_wp2_with fail
    refine (next_any 9 L0.out.di (by omega) (by omega)).mono ?_
    rintro e w4 ⟨⟨y, rfl, y0, y1⟩, hl⟩
    replace X0 := Lib.hid ((hl.far.block w.heap.size (Array.getElem?_eq_some_iff.1 X0.out).1 (by simp; omega)).trans X0.out)
    replace L0 := Lib.hid (L0.out.trans hl)
    clear hl
    obtain ⟨⟨b0, b1, b2, b3, b4⟩, b5, b6, b7, b8, b9⟩ := cells10 X0.out
    obtain ⟨⟨r0, r1, r2, r3, r4⟩, r5, r6, r7, r8, r9⟩ := free10 X0.out
    go_wp2_with fail
    have Y := Lib.hid (st10 X0.out (.int .i64 0) (.int .i64 (1 + x)) (.int .i64 0) (.int .i64 0) (.int .i64 (1 + y)) (.int .i64 0) (.int .i64 0) (.slice none 0 0) (.int .i64 0) (.int .i64 0))
    refine bodyPost_ret (results_cell_row rfl _ _ w.heap.size _ _ _ _ rfl Y.out rfl (by rfl) rfl) rfl ⟨.inl ⟨0, 1 + x, 0, 0, 1 + y, 0, 0, .inl rfl, rfl⟩, Dice.Left.past HD.out L0.out (below10 _ _ _ _ _ _ _ _ _ _ _ _)⟩
  · go_wp2_with fail
    refine (next_any 9 L0.out.di (by omega) (by omega)).mono ?_
    rintro e w3 ⟨⟨x, rfl, x0, x1⟩, hl⟩
    replace X0 := Lib.hid ((hl.far.block w.heap.size (Array.getElem?_eq_some_iff.1 X0.out).1 (by simp; omega)).trans X0.out)
    replace L0 := Lib.hid (L0.out.trans hl)
    clear hl
    go_wp2_with fail
    refine (next_any 9 L0.out.di (by omega) (by omega)).mono ?_
    rintro e w4 ⟨⟨y, rfl, y0, y1⟩, hl⟩
    replace X0 := Lib.hid ((hl.far.block w.heap.size (Array.getElem?_eq_some_iff.1 X0.out).1 (by simp; omega)).trans X0.out)
    replace L0 := Lib.hid (L0.out.trans hl)
    clear hl
    go_wp2_with fail
    refine (next_any 3 L0.out.di (by omega) (by omega)).mono ?_
    rintro e w5 ⟨⟨z, rfl, z0, z1⟩, hl⟩
    replace X0 := Lib.hid ((hl.far.block w.heap.size (Array.getElem?_eq_some_iff.1 X0.out).1 (by simp; omega)).trans X0.out)
    replace L0 := Lib.hid (L0.out.trans hl)
    clear hl
    go_wp2_with fail
    have Iw6 := Lib.hid (ints_alloc w5 [1, 2, -3, 1048576] 3)
    refine (pick_any w5.heap.size [1, 2, -3, 1048576] 4 4 (L0.out.di.below (new_block _)) (by simpa using Iw6.out) rfl (by omega) (by omega) (by have := L0.out.di.lt; omega) (by simp)).mono ?_
    rintro e w6 ⟨⟨p, rfl, ps⟩, hl⟩
    replace X0 := Lib.hid ((hl.far.block w.heap.size (by have := (Array.getElem?_eq_some_iff.1 X0.out).1; simp; omega) (by simp; omega)).trans ((heap_alloc_old w5 _ (Array.getElem?_eq_some_iff.1 X0.out).1).trans X0.out))
    replace L0 := Lib.hid ((L0.out.below (new_block _)).trans hl)
    clear hl Iw6
    go_wp2_with fail
    refine (next_any 9 L0.out.di (by omega) (by omega)).mono ?_
    rintro e w7 ⟨⟨q, rfl, q0, q1⟩, hl⟩
    replace X0 := Lib.hid ((hl.far.block w.heap.size (Array.getElem?_eq_some_iff.1 X0.out).1 (by simp; omega)).trans X0.out)
    replace L0 := Lib.hid (L0.out.trans hl)
    clear hl
    go_wp2_with fail
    have Iw8 := Lib.hid (ints_alloc w7 [0, 1, 1048576] 3)
    refine (pick_any w7.heap.size [0, 1, 1048576] 3 3 (L0.out.di.below (new_block _)) (by simpa using Iw8.out) rfl (by omega) (by omega) (by have := L0.out.di.lt; omega) (by simp)).mono ?_
    rintro e w8 ⟨⟨r, rfl, rs⟩, hl⟩
    replace X0 := Lib.hid ((hl.far.block w.heap.size (by have := (Array.getElem?_eq_some_iff.1 X0.out).1; simp; omega) (by simp; omega)).trans ((heap_alloc_old w7 _ (Array.getElem?_eq_some_iff.1 X0.out).1).trans X0.out))
    replace L0 := Lib.hid ((L0.out.below (new_block _)).trans hl)
    clear hl Iw8
    obtain ⟨⟨b0, b1, b2, b3, b4⟩, b5, b6, b7, b8, b9⟩ := cells10 X0.out
    obtain ⟨⟨r0, r1, r2, r3, r4⟩, r5, r6, r7, r8, r9⟩ := free10 X0.out
    go_wp2_with fail
    have Y := Lib.hid (st10 X0.out (.int .i64 1) (.int .i64 (x - 4)) (.int .i64 (y - 4)) (.int .i64 z) (.int .i64 p) (.int .i64 (q - 4)) (.int .i64 r) (.slice none 0 0) (.int .i64 0) (.int .i64 0))
    refine bodyPost_ret (results_cell_row rfl _ _ w.heap.size _ _ _ _ rfl Y.out rfl (by rfl) rfl) rfl ⟨.inl ⟨1, x - 4, y - 4, z, p, q - 4, r, .inr rfl, rfl⟩, Dice.Left.past HD.out L0.out (below10 _ _ _ _ _ _ _ _ _ _ _ _)⟩
  · go_wp2_with fail
    refine (next_any 4 L0.out.di (by omega) (by omega)).mono ?_
    rintro e w3 ⟨⟨x, rfl, x0, x1⟩, hl⟩
    replace X0 := Lib.hid ((hl.far.block w.heap.size (Array.getElem?_eq_some_iff.1 X0.out).1 (by simp; omega)).trans X0.out)
    replace L0 := Lib.hid (L0.out.trans hl)
    clear hl
    have hx3 := (Array.getElem?_eq_some_iff.1 X0.out).1
    have O0 : Hid ((w3.alloc (.cells #[.int .i64 (1 + x)] 3)).ownsRow (w.heap.size + 1) 3 1 (.slice (some ⟨w3.heap.size, 0, none⟩) 1 1) [1 + x].length (ints [1 + x])) := Lib.hid (World.ownsRow_lit w3 #[.int .i64 (1 + x)] 1 hx3 (by decide) rfl)
    replace X0 := Lib.hid ((heap_alloc_old w3 (.cells #[.int .i64 (1 + x)] 3) hx3).trans X0.out)
    replace L0 := Lib.hid (L0.out.below (new_block (.cells #[.int .i64 (1 + x)] 3)))
    have hs4 : (w3.alloc (.cells #[.int .i64 (1 + x)] 3)).heap.size = w3.heap.size + 1 := by simp
    replace hs4 := Lib.hid hs4
    go_wp2_with fail
    have ht : Hid (Taps [1 + x]) := Lib.hid ⟨by simp, fun z hz => by simp at hz; omega, by simp; omega⟩
    generalize hw4 : w3.alloc (.cells #[.int .i64 (1 + x)] 3) = w4 at *
    rw [← hs4.out]
    generalize w3.heap.size = g0 at *
    clear hw4
    have I5 := Lib.hid (ints_alloc w4 [1, 1, 2, 5] 3)
    refine (pick_any w4.heap.size [1, 1, 2, 5] 4 4 (L0.out.di.below (new_block _)) (by simpa using I5.out) rfl (by omega) (by omega) (by have := L0.out.di.lt; omega) (by simp)).mono ?_
    rintro e w5 ⟨⟨fac, rfl, hf⟩, hl⟩
    have f1 : 1 ≤ fac := by simp at hf; omega
    have f2 : fac ≤ 5 := by simp at hf; omega
    replace X0 := Lib.hid ((hl.far.block w.heap.size (by have := (Array.getElem?_eq_some_iff.1 X0.out).1; simp; omega) (by simp; omega)).trans ((heap_alloc_old w4 _ (Array.getElem?_eq_some_iff.1 X0.out).1).trans X0.out))
    replace L0 := Lib.hid ((L0.out.below (new_block _)).trans hl)
    replace O0 := Lib.hid (row_grown (O0.out.alloc _) hl.far (by have := HD.out.lt; omega))
    clear hl I5 hf
    go_wp2_with fail
    refine (next_any 5 L0.out.di (by omega) (by omega)).mono ?_
    rintro e w6 ⟨⟨sh, rfl, s0, s1⟩, hl⟩
    obtain ⟨s, rfl⟩ : ∃ s : Nat, sh = (s : Int) := ⟨sh.toNat, by omega⟩
    replace X0 := Lib.hid ((hl.far.block w.heap.size (by have := (Array.getElem?_eq_some_iff.1 X0.out).1; simp; omega) (by simp; omega)).trans X0.out)
    replace L0 := Lib.hid (L0.out.trans hl)
    replace O0 := Lib.hid (row_grown O0.out hl.far (by have := HD.out.lt; omega))
    clear hl
    have hx6 := (Array.getElem?_eq_some_iff.1 X0.out).1
    have M0 : Hid (StM W w d w6.heap.size a len cap zs (w6.alloc (.cells #[.int .i64 2, .int .i64 0, .int .i64 0, .int .i64 0, .int .i64 0, .int .i64 0, .int .i64 0, .slice (some ⟨g0, 0, none⟩) 1 1, .int .i64 fac, .int .i64 s] 29)) (.slice (some ⟨g0, 0, none⟩) 1 1) fac s [1 + x]) := Lib.hid
      ⟨HD.out, L0.out.below (new_block _), hx6, (heap_alloc_old w6 _ hx6).trans X0.out, heap_alloc_new _ _, O0.out.alloc _⟩
    clear X0 L0 O0 hx3
    go_wp2_with fail
    generalize w6.alloc (.cells #[.int .i64 2, .int .i64 0, .int .i64 0, .int .i64 0, .int .i64 0, .int .i64 0, .int .i64 0, .slice (some ⟨g0, 0, none⟩) 1 1, .int .i64 fac, .int .i64 s] 29) = w7 at *
    refine (next_any 3 M0.out.L.di (by omega) (by omega)).mono ?_
    rintro e w8 ⟨⟨i, rfl, i1, i2⟩, hl⟩
    replace M0 := Lib.hid (M0.out.left hl)
    clear hl
    go_wp2_with fail
    generalize hB : w6.heap.size = b at *
    clear hB
    go_loopw [4, 5] (fun i y wr => ∃ (k : Int) (l : List Int) (v : Value), 0 ≤ k ∧ (l.length : Int) + 2 * k ≤ 5 ∧ i = .int .i64 k ∧ Hid (Taps l) ∧ Hid (StM W w d b a len cap zs wr v fac s l)) (fun i _ _ => (intOf i).toNat)
    case atStart => exact ⟨i, [1 + x], _, by omega, by simp; omega, rfl, ht, M0⟩
    case round =>
      clear M0 ht
      obtain ⟨k, l, v, k0, k1, rfl, ht, M⟩ := hrel
      have hl1 := ht.out.n1
      have hl5 : l.length ≤ 5 := by omega
      obtain ⟨gv, cv, rfl, hgv1, hgv2⟩ := M.out.own.form (by omega)
      by_cases hk : 0 < k
      · go_wp2_with fail
        refine (next_any 4 M.out.L.di (by omega) (by omega)).mono ?_
        rintro e w9 ⟨⟨y, rfl, y0, y1⟩, hl⟩
        replace M := Lib.hid (M.out.left hl)
        clear hl
        have X7 := Lib.hid (heap_alloc_old w9 (.cells #[.int .i64 y] 3) (Array.getElem?_eq_some_iff.1 M.out.blk).1)
        obtain ⟨⟨b0, b1, b2, b3, b4⟩, b5, b6, b7, b8, b9⟩ := cells10 (X7.out.trans M.out.blk)
        have m1 : Hid (1 + l.length ≤ maxLen) := Lib.hid (by unfold maxLen; omega)
        have m2 : Hid (1 + l.length + 1 ≤ maxLen) := Lib.hid (by unfold maxLen; omega)
        have hll : Hid ((ints l).length = l.length * 1) := Lib.hid (by rw [ints_len]; omega)
        have hon : Hid (∀ u ∈ ints l, u.oneCell' = true) := Lib.hid (by intro u hu; simp [ints] at hu; obtain ⟨z, _, rfl⟩ := hu; rfl)
        have hnw := Lib.hid ((M.out.own.alloc (.cells #[.int .i64 y] 3)).cells (g := gv) rfl)
        have hlit : Hid ((w9.alloc (.cells #[.int .i64 y] 3)).ownsRow w9.heap.size 3 1 (.slice (some ⟨w9.heap.size, 0, none⟩) 1 1) 1 [.int .i64 y]) := Lib.hid (World.ownsRow_lit w9 #[.int .i64 y] 1 (Nat.le_refl _) (by decide) rfl)
        have hb9 := (Array.getElem?_eq_some_iff.1 M.out.blk).1
        have hbw := M.out.bw
        have hsa9 : Hid ((w9.alloc (.cells #[.int .i64 y] 3)).heap.size = w9.heap.size + 1) := Lib.hid (by simp)
        go_wp2_with (first
          | (at_builtin; refine wpList_append_lies _ rfl (.tmp 60) (.tmp 62) 22 rfl w9.heap.size 3 i0 (.int .i64 0) 1 8 Try.underlying22 hi hz0 hz1 hz2 rfl (by decide) (.slice (some ⟨w9.heap.size, 0, none⟩) 1 1) 1 [.int .i64 y] rfl hlit.out ⟨gv, 0, none⟩ l.length cv (ints l) rfl hll.out hnw.out hon.out (by omega) m1.out (by omega) (by simp) _ rfl ?_; intro g10 c10 w10 hown hgrow hat hlt10)
          | (at_builtin; refine wpList_append_lies _ rfl (.tmp 63) (.tmp 65) 22 rfl w9.heap.size 3 i0 (.int .i64 0) 1 8 Try.underlying22 hi hz0 hz1 hz2 rfl (by decide) (.slice (some ⟨g10, 0, none⟩) (1 + l.length) c10) (1 + l.length) ([.int .i64 y] ++ ints l) rfl (hown.alloc _) ⟨w10.heap.size, 0, none⟩ 1 1 [.int .i64 y] rfl rfl (World.news_of_block (cs := #[.int .i64 y]) (heap_alloc_new w10 _)) (one_i _) (by decide) m2.out (by omega) (by have := hgrow.size; simp at this; simp; omega) _ rfl ?_; skip))
        intro g11 c11 w11 hown2 hgrow2 hat2 hlt11
        have hg10 := (hown.lt g10 rfl).1
        have hs10 := hgrow.size; rw [hsa9.out] at hs10
        have T1 := Lib.hid ((hgrow.block b (by rw [hsa9.out]; omega) (by simp [Value.ownBlock]; omega)).trans (heap_alloc_old w9 (.cells #[.int .i64 y] 3) hb9))
        have hb10 : b < w10.heap.size := by omega
        have T2 := Lib.hid ((hgrow2.block b (by simp; omega) (by simp [Value.ownBlock]; omega)).trans ((heap_alloc_old w10 (.cells #[.int .i64 y] 3) hb10).trans T1.out))
        have T := Lib.hid (T2.out.trans M.out.blk)
        have q0 := cell_of_row w11 b 7 _ _ _ T.out
        have q1 := frozen_of_row w11 b 7 _ _ T.out
        go_wp2_with fail
        have hsb : (w10.alloc (.cells #[.int .i64 y] 3)).heap.size = w10.heap.size + 1 := by simp
        have B1 : Hid (Below (w.heap.size + 1) w9 w11) := Lib.hid (((((Below.refl _ w9).alloc (by omega) _).grown hgrow (by rw [hsa9.out]; omega) (fun k hk => by simp [Value.ownBlock] at hk; omega)).alloc (by omega) _).grown hgrow2 (by rw [hsb]; omega) (fun k hk => by simp [Value.ownBlock] at hk; omega))
        have el : (y :: l ++ [y]).length = 1 + l.length + 1 := by simp; omega
        have R1 : Hid (w11.ownsRow (w.heap.size + 1) 3 1 (.slice (some ⟨g11, 0, none⟩) (1 + l.length + 1) c11) (y :: l ++ [y]).length (ints (y :: l ++ [y]))) := Lib.hid (by
          rw [el]
          have := row_le hown2 (B' := w.heap.size + 1) (by omega)
          simpa [ints] using this)
        have M1 := Lib.hid (M.out.put B1.out T2.out R1.out)
        have ht1 := Lib.hid (ht.out.wrap (y := y) y0 (by omega))
        clear M hown hgrow hat hlt10 hown2 hgrow2 hat2 hlt11 T1 T2 T q0 q1 B1 R1 hlit hnw hon
        go_roundw
        case rel => exact ⟨k - 1, y :: l ++ [y], _, by omega, by rw [el]; omega, rfl, ht1, M1⟩
        case measure => simp [intOf]; omega
      · go_wp2_with fail
        refine (next_any 6 M.out.L.di (by omega) (by omega)).mono ?_
        rintro e w9 ⟨⟨y, rfl, y0, y1⟩, hl⟩
        replace M := Lib.hid (M.out.left hl)
        clear hl
        have hbw := M.out.bw
        by_cases hy : y = 0
        · subst hy
          obtain ⟨⟨b0, b1, b2, b3, b4⟩, b5, b6, b7, b8, b9⟩ := cells10 M.out.blk
          have m1 : Hid (l.length + 1 ≤ maxLen) := Lib.hid (by unfold maxLen; omega)
          have hb9 := (Array.getElem?_eq_some_iff.1 M.out.blk).1
          have X7 := Lib.hid (heap_alloc_old w9 (.cells #[.int .i64 3] 3) hb9)
          have hsa9 : Hid ((w9.alloc (.cells #[.int .i64 3] 3)).heap.size = w9.heap.size + 1) := Lib.hid (by simp)
          have hne := Lib.hid M.out.ne
          go_wp2_with (at_builtin; refine wpList_append_lies _ rfl (.tmp 72) (.tmp 73) 22 rfl (w.heap.size + 1) 3 i0 (.int .i64 0) 1 8 Try.underlying22 hi hz0 hz1 hz2 rfl (by decide) (.slice (some ⟨gv, 0, none⟩) l.length cv) l.length (ints l) rfl (M.out.own.alloc _) ⟨w9.heap.size, 0, none⟩ 1 1 [.int .i64 3] rfl rfl (World.news_of_block (cs := #[.int .i64 3]) (heap_alloc_new w9 _)) (one_i _) (by decide) m1.out (by omega) (by simp; omega) _ rfl ?_; intro g11 c11 w11 hown2 hgrow2 hat2 hlt11; have T2 := Lib.hid ((hgrow2.block b (by rw [hsa9.out]; omega) (fun e => hne.out e.symm)).trans (heap_alloc_old w9 (.cells #[.int .i64 3] 3) hb9)); have T := Lib.hid (T2.out.trans M.out.blk); have q0 := cell_of_row w11 b 7 _ _ _ T.out; have q1 := frozen_of_row w11 b 7 _ _ T.out; have B1 : Hid (Below (w.heap.size + 1) w9 w11) := Lib.hid (((Below.refl _ w9).alloc (by omega) _).grown hgrow2 (by rw [hsa9.out]; omega) (fun k hk => (M.out.own.lt k hk).1)); have M1 := Lib.hid (M.out.put (l' := l ++ [3]) B1.out T2.out (by rw [List.length_append, ints_snoc]; exact hown2)); obtain ⟨⟨c0, c1, c2, c3, c4⟩, c5, c6, c7, c8, c9⟩ := cells10 M1.out.blk; obtain ⟨⟨d0, d1, d2, d3, d4⟩, d5, d6, d7, d8, d9⟩ := cells10 M1.out.box; obtain ⟨⟨r0, r1, r2, r3, r4⟩, r5, r6, r7, r8, r9⟩ := free10 M1.out.box)
          have Y := Lib.hid (st10 M1.out.box (.int .i64 2) (.int .i64 0) (.int .i64 0) (.int .i64 0) (.int .i64 0) (.int .i64 0) (.int .i64 0) (.slice (some ⟨g11, 0, none⟩) (l.length + 1) c11) (.int .i64 fac) (.int .i64 s))
          refine bodyPost_ret (results_cell_row rfl _ _ w.heap.size _ _ _ _ rfl Y.out rfl (by rfl) rfl) rfl ⟨.inr ⟨_, l ++ [3], fac, s, rfl, M1.out.out _ _ _ _ _ _ _ _ _ _, ht.out.more, by first | omega | (simp; omega), f1, f2, by omega⟩, Dice.Left.past M1.out.h M1.out.L (below10 _ _ _ _ _ _ _ _ _ _ _ _)⟩
        · have hy' : (y == 0) = false := by simpa using hy
          obtain ⟨⟨c0, c1, c2, c3, c4⟩, c5, c6, c7, c8, c9⟩ := cells10 M.out.blk
          obtain ⟨⟨d0, d1, d2, d3, d4⟩, d5, d6, d7, d8, d9⟩ := cells10 M.out.box
          obtain ⟨⟨r0, r1, r2, r3, r4⟩, r5, r6, r7, r8, r9⟩ := free10 M.out.box
          go_wp2_with fail
          have Y := Lib.hid (st10 M.out.box (.int .i64 2) (.int .i64 0) (.int .i64 0) (.int .i64 0) (.int .i64 0) (.int .i64 0) (.int .i64 0) (.slice (some ⟨gv, 0, none⟩) l.length cv) (.int .i64 fac) (.int .i64 s))
          refine bodyPost_ret (results_cell_row rfl _ _ w.heap.size _ _ _ _ rfl Y.out rfl (by rfl) rfl) rfl ⟨.inr ⟨_, l, fac, s, rfl, M.out.out _ _ _ _ _ _ _ _ _ _, ht.out, by first | omega | (simp; omega), f1, f2, by omega⟩, Dice.Left.past M.out.h M.out.L (below10 _ _ _ _ _ _ _ _ _ _ _ _)⟩
end Fil
end Go.Proofs.Ytmnafkfjmeoklaa
