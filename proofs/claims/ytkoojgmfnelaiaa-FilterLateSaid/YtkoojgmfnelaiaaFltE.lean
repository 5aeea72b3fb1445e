/- filter.Segment. -/
import Derived.Test.YtkoojgmfnelaiaaFltD
import Derived.Test.YtkoojgmfnelaiaaFltA
import Derived.Test.YtkoojgmfnelaiaaFilB
import Derived.Test.YtkoojgmfnelaiaaRateCN
set_option linter.unusedVariables false
set_option linter.unusedSimpArgs false
namespace Go.Proofs.Ytkoojgmfnelaiaa
open Go.RowKit
namespace Flt
open Dice Fil
theorem RXo.sv {w : World} {b off n c : Nat} {X : Nat → Int} (h : RXo w b off n c X) : SV w (.slice (some ⟨b, off, none⟩) n c) n X :=
  ⟨_, _, rfl, h.hc, h.c9, fun _ => ⟨b, off, rfl, h.lt, h.sr⟩⟩
theorem c2 {w : World} {g : Nat} {a b : Value} {t : TypeId} (h : w.heap[g]? = some (.cells #[a, b] t (0, 0))) : w.cell? ⟨g, 0, none⟩ = some a ∧ w.cell? ⟨g, 1, none⟩ = some b :=
  ⟨cell_of_row w g 0 _ _ _ h, cell_of_row w g 1 _ _ _ h⟩
theorem own_row {B d : Nat} {w : World} {v : Value} {xs : List Value} (h : Buf.Own B w v xs) (hd : d < B) (cs : Array Value) : Buf.Own B (w.setRow d cs) v xs :=
  own_grown h (d := d) ⟨rfl, rfl, rfl, by simp, fun k hk hne => setRow_other w d k cs (fun e => hne (by rw [e]))⟩ hd
/-- What Segment returns. -/
def SegSaid (B : Nat) (T X : Nat → Int) (n s L : Nat) (fac st fi num den er A B2 N : Int) (e : Ending) (w : World) : Prop :=
  (outs T X n s fac N L = [] ∧ e = .returned (.tuple #[.agg #[.int .i64 0, .int .i64 0, .int .i64 0, .int .i64 0, .int .i64 0, .slice none 0 0], .bool false, .int .i64 0])) ∨
  (outs T X n s fac N L ≠ [] ∧ ∃ r, e = .returned (.tuple #[.agg #[.int .i64 (st + Rate.el num den (fi + nx fac N (n - 1))), .int .i64 0, .int .i64 A, .int .i64 B2, .int .i64 (min (er + 1) 1099511627776), r], .bool true, .int .i64 0]) ∧ Buf.Own B w r (ints (outs T X n s fac N L)))
set_option maxHeartbeats 8000000 in
set_option maxRecDepth 100000 in
theorem segment_any {w : World} {v : Value} {n s L c b off : Nat} {T X : Nat → Int} {fac st fi num den er A B N : Int} (hf : SV w v n T) (fg : FG n T fac s) (P : SG st fi num den er 0 0) (HX : RXo w b off L c X)
    (SL : ∀ w', Calls Try.prog 39 #[.agg #[.int .i64 num, .int .i64 den], .int .i64 fac] w' fun e w'' => e = .returned (.tuple #[.agg #[.int .i64 A, .int .i64 B], .int .i64 0]) ∧ Below w'.heap.size w' w'')
    (hN : Rate.numF num den (st + Rate.el num den fi) = N) (N0 : 0 ≤ N) (N9 : N ≤ 18014398509481984) :
    Calls Try.prog 23 #[.agg #[v, .int .i64 fac, .int .i64 s], .agg #[.int .i64 st, .int .i64 fi, .int .i64 num, .int .i64 den, .int .i64 er, .slice (some ⟨b, off, none⟩) L c]] w fun e w' => SegSaid w.heap.size T X n s L fac st fi num den er A B N e w' ∧ Below w.heap.size w w' := by
  have VF := Lib.hid fun (w' : World) (h : Below w.heap.size w w') => valid_yes (hf.below h) fg
  have VS := Lib.hid fun (w' : World) (h : Below w.heap.size w w') => validSegment_yes P (HX.keep h)
  have OU := Lib.hid fun (w' : World) (h : Below w.heap.size w w') => outputs_first N (hf.below h) (HX.keep h).sv fg (by have := HX.h9; omega) HX.ok N0 N9
  have sb := el_small num den fi P.rv.n1 P.rv.d1 P.rv.d2 P.fi0 (by have := P.fi9; omega)
  have TB := Lib.hid fun w' => Rate.time_ok st num den fi P.rv w' P.st0 (by have := P.st9; omega) P.fi0 (by have := P.fi9; omega)
  have NU := Lib.hid fun w' => Rate.number_ok num den (st + Rate.el num den fi) P.rv w' (by have := P.st0; omega) (by have := P.st9; omega)
  rw [hN] at NU
  have nb := nx_bd fac N (n - 1) fg.f1
  have f9 := fg.f2
  have n9 := fg.n2
  have TF := Lib.hid fun w' => Rate.time_ok st num den (fi + nx fac N (n - 1)) P.rv w' P.st0 (by have := P.st9; omega) (by have := P.fi0; omega) (by have := P.fi9; omega)
  have n1 := fg.n1
  have nb0 : 0 ≤ nx fac N (n - 1) := by omega
  have nb9 : nx fac N (n - 1) ≤ 200 := by omega
  unfold SegSaid
  generalize nx fac N (n - 1) = F at *
  generalize Rate.el num den (fi + F) = E2 at *
  generalize Rate.el num den fi = E1 at *
  obtain ⟨lst, hlst⟩ : ∃ lst, lst = outs T X n s fac N L := ⟨_, rfl⟩
  have hll : lst.length ≤ 1000 := by rw [hlst]; exact Nat.le_trans (outs_len T X n s fac N L) HX.h9
  rw [← hlst] at OU ⊢
  clear hlst hN nb
  obtain ⟨a, c0, rfl, h1, h2, h3⟩ := hf
  obtain ⟨st0, st9, fi0, fi9, rv, er0, er9, _, _, _, _⟩ := P
  clear h2 h3 HX fg rv
  obtain ⟨w1, hw1⟩ : ∃ w1, w1 = w.alloc (.cells #[.slice a n c0, .int .i64 fac, .int .i64 s] 33) := ⟨_, rfl⟩
  have z1 : Hid (w1.heap.size = w.heap.size + 1) := Lib.hid (by rw [hw1]; simp)
  have KA1 := Lib.hid (show w1.heap[w.heap.size]? = some (.cells #[.slice a n c0, .int .i64 fac, .int .i64 s] 33 (0, 0)) by rw [hw1]; exact heap_alloc_new w _)
  have Y1 : Hid (Below w.heap.size w w1) := Lib.hid (by rw [hw1]; exact new_block _)
  obtain ⟨w2, hw2⟩ : ∃ w2, w2 = w1.alloc (.cells #[.int .i64 st, .int .i64 fi, .int .i64 num, .int .i64 den, .int .i64 er, .slice (some ⟨b, off, none⟩) L c] 57) := ⟨_, rfl⟩
  have z2 : Hid (w2.heap.size = w.heap.size + 1 + 1) := Lib.hid (by rw [hw2]; simp [z1.out])
  have KA2 := Lib.hid (hb (w' := w2) (by rw [hw2]; exact new_block _) KA1.out)
  have KS2 := Lib.hid (show w2.heap[w.heap.size + 1]? = some (.cells #[.int .i64 st, .int .i64 fi, .int .i64 num, .int .i64 den, .int .i64 er, .slice (some ⟨b, off, none⟩) L c] 57 (0, 0)) by rw [hw2, ← z1.out]; exact heap_alloc_new w1 _)
  have Y2 : Hid (Below w.heap.size w w2) := Lib.hid (Buf.then_ Y1.out (by rw [hw2]; exact new_block _))
  obtain ⟨w4, hw4⟩ : ∃ w4, w4 = w2.alloc (.cells #[.int .i64 0, .int .i64 0, .int .i64 0, .int .i64 0, .int .i64 0, .slice none 0 0] 57) := ⟨_, rfl⟩
  have KA := Lib.hid (hb (w' := w4) (by rw [hw4]; exact new_block _) KA2.out)
  have KS := Lib.hid (hb (w' := w4) (by rw [hw4]; exact new_block _) KS2.out)
  have KR := Lib.hid (show w4.heap[w.heap.size + 1 + 1]? = some (.cells #[.int .i64 0, .int .i64 0, .int .i64 0, .int .i64 0, .int .i64 0, .slice none 0 0] 57 (0, 0)) by rw [hw4, ← z2.out]; exact heap_alloc_new w2 _)
  have YY : Hid (Below w.heap.size w w4) := Lib.hid (Buf.then_ Y2.out (by rw [hw4]; exact new_block _))
  go_enter Try.func23, Try.ntmps23
  go_upto_region 1 with fail
  rw [← hw1, ← hw2, ← hw4]
  clear hw1 hw2 hw4 KA1 KA2 KS2 Y1 Y2 z1 z2
  obtain ⟨x0, x1, x2⟩ := cells3 KA.out
  obtain ⟨y0, y1, y2, y3, y4, y5⟩ := c6 KS.out
  go_upto_region 3 with (first
    | (go_at_call 29; with_reducible refine (VF.out _ YY.out).mono ?_; rintro e w5 ⟨rfl, hc⟩; (replace KA := Lib.hid (hb hc KA.out)); (replace KS := Lib.hid (hb hc KS.out)); (replace KR := Lib.hid (hb hc KR.out)); (replace YY := Lib.hid (Buf.then_ YY.out hc)); (clear VF); (clear x0 x1 x2 y0 y1 y2 y3 y4 y5); (obtain ⟨x0, x1, x2⟩ := cells3 KA.out); (obtain ⟨y0, y1, y2, y3, y4, y5⟩ := c6 KS.out))
    | (go_at_call 38; with_reducible refine (VS.out _ YY.out).mono ?_; rintro e w5 ⟨rfl, hc⟩; (replace KA := Lib.hid (hb hc KA.out)); (replace KS := Lib.hid (hb hc KS.out)); (replace KR := Lib.hid (hb hc KR.out)); (replace YY := Lib.hid (Buf.then_ YY.out hc)); (clear VS); (clear x0 x1 x2 y0 y1 y2 y3 y4 y5); (obtain ⟨x0, x1, x2⟩ := cells3 KA.out); (obtain ⟨y0, y1, y2, y3, y4, y5⟩ := c6 KS.out)))
  go_upto_region 6 with (first
    | (go_at_call 39; with_reducible refine (SL _).mono ?_; rintro e w5 ⟨rfl, hc⟩; (replace KA := Lib.hid (hb hc KA.out)); (replace KS := Lib.hid (hb hc KS.out)); (replace KR := Lib.hid (hb hc KR.out)); (replace YY := Lib.hid (Buf.then_ YY.out hc)); (clear x0 x1 x2 y0 y1 y2 y3 y4 y5); (obtain ⟨x0, x1, x2⟩ := cells3 KA.out); (obtain ⟨y0, y1, y2, y3, y4, y5⟩ := c6 KS.out)))
  obtain ⟨p7, hp7⟩ : ∃ p, p = w5.heap.size := ⟨_, rfl⟩
  obtain ⟨w6, hw6⟩ : ∃ w6, w6 = w5.alloc (.cells #[.int .i64 A, .int .i64 B] 55) := ⟨_, rfl⟩
  have hc6 : Below w5.heap.size w5 w6 := by rw [hw6]; exact new_block _
  have K7 := Lib.hid (show w6.heap[p7]? = some (.cells #[.int .i64 A, .int .i64 B] 55 (0, 0)) by rw [hw6, hp7]; exact heap_alloc_new w5 _)
  replace KA := Lib.hid (hb hc6 KA.out)
  replace KS := Lib.hid (hb hc6 KS.out)
  replace KR := Lib.hid (hb hc6 KR.out)
  replace YY := Lib.hid (Buf.then_ YY.out hc6)
  rw [← hw6, ← hp7]
  clear x0 x1 x2 y0 y1 y2 y3 y4 y5
  clear hw6 hp7 hc6 hc SL
  obtain ⟨x0, x1, x2⟩ := cells3 KA.out; obtain ⟨y0, y1, y2, y3, y4, y5⟩ := c6 KS.out
  obtain ⟨v0, v1⟩ := c2 K7.out
  go_upto_region 9 with (first
    | (go_at_call 28; with_reducible refine (TB.out _).mono ?_; rintro e w5 ⟨rfl, hc⟩; (replace KA := Lib.hid (hb hc KA.out)); (replace KS := Lib.hid (hb hc KS.out)); (replace KR := Lib.hid (hb hc KR.out)); (replace YY := Lib.hid (Buf.then_ YY.out hc)); (replace K7 := Lib.hid (hb hc K7.out)); (clear v0 v1); (obtain ⟨v0, v1⟩ := c2 K7.out); (clear x0 x1 x2 y0 y1 y2 y3 y4 y5); (obtain ⟨x0, x1, x2⟩ := cells3 KA.out); (obtain ⟨y0, y1, y2, y3, y4, y5⟩ := c6 KS.out))
    | (go_at_call 40; with_reducible refine (NU.out _).mono ?_; rintro e w5 ⟨rfl, hc⟩; (replace KA := Lib.hid (hb hc KA.out)); (replace KS := Lib.hid (hb hc KS.out)); (replace KR := Lib.hid (hb hc KR.out)); (replace YY := Lib.hid (Buf.then_ YY.out hc)); (replace K7 := Lib.hid (hb hc K7.out)); (clear v0 v1); (obtain ⟨v0, v1⟩ := c2 K7.out); (clear x0 x1 x2 y0 y1 y2 y3 y4 y5); (obtain ⟨x0, x1, x2⟩ := cells3 KA.out); (obtain ⟨y0, y1, y2, y3, y4, y5⟩ := c6 KS.out))
    | (go_at_call 34; with_reducible refine (OU.out _ YY.out).mono ?_; rintro e w5 ⟨⟨r, f, rfl, RO, hF⟩, hc⟩; (replace RO := Lib.hid (show ∃ q, w.heap.size + 1 + 1 < q ∧ Buf.Own q w5 r (ints lst) from ⟨_, (Array.getElem?_eq_some_iff.1 KR.out).1, RO⟩)); (replace hF := Lib.hid hF); (replace KA := Lib.hid (hb hc KA.out)); (replace KS := Lib.hid (hb hc KS.out)); (replace KR := Lib.hid (hb hc KR.out)); (replace YY := Lib.hid (Buf.then_ YY.out hc)); (replace K7 := Lib.hid (hb hc K7.out)); (clear v0 v1); (obtain ⟨v0, v1⟩ := c2 K7.out); (clear x0 x1 x2 y0 y1 y2 y3 y4 y5); (obtain ⟨x0, x1, x2⟩ := cells3 KA.out); (obtain ⟨y0, y1, y2, y3, y4, y5⟩ := c6 KS.out)))
  clear OU NU TB
  obtain ⟨q, hq, RO⟩ := RO.out
  replace RO := Lib.hid RO
  obtain ⟨ra, rc, rfl⟩ : ∃ ra rc, r = .slice ra lst.length rc := by
    have := own_len RO.out
    rwa [ints_len] at this
  by_cases he : lst = []
  · have hl : lst.length = 0 := by rw [he]; rfl
    generalize lst.length = m at *
    subst hl
    replace he := Lib.hid he
    go_wp2_with ((with_reducible refine Mid.str 57 (.tmp 4) (.tmp 65) (w.heap.size + 1 + 1) 57 #[.int .i64 0, .int .i64 0, .int .i64 0, .int .i64 0, .int .i64 0, .slice none 0 0] #[.int .i64 0, .int .i64 0, .int .i64 0, .int .i64 0, .int .i64 0, .slice none 0 0] KR.out ?_ ?_ ?_ ?_ ?_ ?_ ?_ ?_); (· rfl); (· rfl); (· first | rfl | simp [Act.eval]); (· first | rfl | simp [Act.eval]); (· kernel_rfl); (· rfl); (· simp [Value.oneCell']))
    have KZ := Lib.hid (setRow_heap _ _ _ #[.int .i64 0, .int .i64 0, .int .i64 0, .int .i64 0, .int .i64 0, .slice none 0 0] _ _ KR.out)
    exact bodyPost_ret (Res.row_tmp2 rfl _ _ (w.heap.size + 1 + 1) _ _ _ _ rfl KZ.out rfl (by rfl) rfl) rfl ⟨.inl ⟨he.out, rfl⟩, Mid.below_row YY.out _ _ (by omega)⟩
  · obtain rfl : f = F := hF.out he
    have hl : ((lst.length : Int) == 0) = false := by
      rw [beq_eq_false_iff_ne]
      intro h0
      exact he (List.length_eq_zero_iff.1 (by omega))
    replace he := Lib.hid he
    go_upto_region 12 with (first
      | (go_at_call 28; with_reducible refine (TF.out _).mono ?_; rintro e w5 ⟨rfl, hc⟩; (replace RO := Lib.hid (RO.out.below hc)); (replace KA := Lib.hid (hb hc KA.out)); (replace KS := Lib.hid (hb hc KS.out)); (replace KR := Lib.hid (hb hc KR.out)); (replace YY := Lib.hid (Buf.then_ YY.out hc)); (replace K7 := Lib.hid (hb hc K7.out)); (clear v0 v1); (obtain ⟨v0, v1⟩ := c2 K7.out); (clear x0 x1 x2 y0 y1 y2 y3 y4 y5); (obtain ⟨x0, x1, x2⟩ := cells3 KA.out); (obtain ⟨y0, y1, y2, y3, y4, y5⟩ := c6 KS.out)))
    have hmin : min (er + 1) 1099511627776 = er + 1 := by omega
    go_wp2_with ((with_reducible refine Mid.str 57 (.tmp 4) (.tmp 85) (w.heap.size + 1 + 1) 57 #[.int .i64 0, .int .i64 0, .int .i64 0, .int .i64 0, .int .i64 0, .slice none 0 0] #[.int .i64 (st + E2), .int .i64 0, .int .i64 A, .int .i64 B, .int .i64 (er + 1), .slice ra lst.length rc] KR.out ?_ ?_ ?_ ?_ ?_ ?_ ?_ ?_); (· rfl); (· rfl); (· first | rfl | simp [Act.eval]); (· first | rfl | simp [Act.eval]); (· kernel_rfl); (· rfl); (· simp [Value.oneCell']))
    have KZ := Lib.hid (setRow_heap _ _ _ #[.int .i64 (st + E2), .int .i64 0, .int .i64 A, .int .i64 B, .int .i64 (er + 1), .slice ra lst.length rc] _ _ KR.out)
    exact bodyPost_ret (Res.row_tmp2 rfl _ _ (w.heap.size + 1 + 1) _ _ _ _ rfl KZ.out rfl (by rfl) rfl) rfl ⟨.inr ⟨he.out, .slice ra lst.length rc, by rw [hmin]; rfl, (own_row RO.out hq _).mono (by omega)⟩, Mid.below_row YY.out _ _ (by omega)⟩
end Flt
end Go.Proofs.Ytkoojgmfnelaiaa
