/- ReceiverOrder: the memory of its loops, what its last line asks. -/
import Derived.Test.YtfneiomdgcoakaaRfG
import Derived.Test.YtfneiomdgcoakaaRcvF
set_option linter.unusedVariables false
set_option linter.unusedSimpArgs false
namespace Go.Proofs.Ytfneiomdgcoakaa
open Go.RowKit Dice Wi
namespace Rcv
open Spn
theorem infoJ : (Try.prog.info? 3).map (fun i => (i.zero, i.size, i.bytes)) = some (some (.int .i64 0), 1, 8) := by kernel_rfl
def iv (L : List Int) : List Value := L.map (.int .i64)
theorem iv_len (L : List Int) : (iv L).length = L.length := by simp [iv]
theorem iv_snoc (L : List Int) (x : Int) : iv (L ++ [x]) = iv L ++ [.int .i64 x] := by simp [iv]
theorem iown_grown {B d : Nat} {w w' : World} {v : Value} {xs : List Value} (h : Buf.Own B w v xs) (hg : w.grownBy w' (some d)) (hd : d < B) : Buf.Own B w' v xs := by
  rcases h with h | ⟨g, cap, e, hb⟩
  · exact .inl h
  · exact .inr ⟨g, cap, e, hb.of_block (hg.block g hb.lt (by have := hb.base; simp; omega)) hg.size⟩
/-- The memory while the numbers are drawn. -/
structure LM (W w : World) (d : Nat) (a : Option Addr) (len cap : Nat) (zs : List Int) (wr : World) (v : Value) (l : List Int) : Prop where
  L : Dice.Left W w wr d a len cap zs
  own : Buf.Own w.heap.size wr v (iv l)
  h : Di W w d a len cap zs
theorem LM.left {W w w1 w2 : World} {d : Nat} {a : Option Addr} {len cap : Nat} {zs : List Int} {v : Value} {l : List Int} (M : LM W w d a len cap zs w1 v l) (hl : Dice.Left W w1 w2 d a len cap zs) : LM W w d a len cap zs w2 v l :=
  ⟨M.L.trans hl, iown_grown M.own hl.far M.h.lt, M.h⟩
theorem LM.append {W w w1 w2 : World} {d : Nat} {a : Option Addr} {len cap : Nat} {zs : List Int} {v v' : Value} {l : List Int} {x : Int} (M : LM W w d a len cap zs w1 v l) (hb : Below w.heap.size w1 w2) (ho : Buf.Own w.heap.size w2 v' (iv l ++ [.int .i64 x])) : LM W w d a len cap zs w2 v' (l ++ [x]) :=
  ⟨Dice.Left.past M.h M.L hb, by rw [iv_snoc]; exact ho, M.h⟩
/-- A list of numbers that can be read at any later time. -/
theorem ro_of {B : Nat} {w : World} {v : Value} {L : List Int} (h : Buf.Own B w v (iv L)) : ∃ sa sc, v = .slice sa L.length sc ∧ ∀ (j : Nat) (q : Int), L[j]? = some q → L.length ≤ sc ∧ ∃ g, sa = some ⟨g, 0, none⟩ ∧ ∀ w', Below w.heap.size w w' → w'.cell? ⟨g, j, none⟩ = some (.int .i64 q) := by
  rcases h with ⟨rfl, e⟩ | ⟨g, c, rfl, hb⟩
  · have e' : L = [] := by cases L with | nil => rfl | cons => simp [iv] at e
    subst e'
    exact ⟨none, 0, rfl, fun j q hq => by simp at hq⟩
  · refine ⟨some ⟨g, 0, none⟩, c, by rw [iv_len], fun j q hq => ⟨by have := hb.le; rw [iv_len] at this; exact this, g, rfl, fun w' h' => ?_⟩⟩
    have hj := (List.getElem?_eq_some_iff.1 hq).1
    have := hb.cells j (by rw [iv_len]; exact hj)
    refine (h'.cell (p := ⟨g, j, none⟩) hb.lt).trans (this.trans ?_)
    simp only [iv, List.getElem?_map, hq, Option.map_some]
/-- x is one of the numbers. -/
def inl (L : List Int) (x : Int) : Bool := decide (x ∈ L)
theorem inl_take {L : List Int} {j : Nat} {q : Int} (h : L[j]? = some q) (x : Int) : (inl (L.take j) x || decide (x = q)) = inl (L.take (j + 1)) x := by
  simp [inl, List.take_add_one, h]
theorem inl_drop {L : List Int} {j : Nat} {q : Int} (h : L[j]? = some q) (x : Int) : (inl (L.drop (j + 1)) x || decide (x = q)) = inl (L.drop j) x := by
  obtain ⟨hj, e⟩ := List.getElem?_eq_some_iff.1 h
  rw [List.drop_eq_getElem_cons hj, e]
  simp [inl, Bool.or_comm]
/-- The memory of the two receivers. -/
structure OB (wL : World) (b8 b9 : Nat) (va la vb lb : Value) (fa ga fb gb : Int → Bool) (wr : World) : Prop where
  B : Below wL.heap.size wL wr
  P8 : wr.heap[b8]? = some (.cells #[va, la] 30 (0, 0))
  P9 : wr.heap[b9]? = some (.cells #[vb, lb] 30 (0, 0))
  Ra : Rc wr va la fa ga
  Rb : Rc wr vb lb fb gb
  h8 : wL.heap.size ≤ b8
  h9 : wL.heap.size ≤ b9
  ne : b8 ≠ b9
section
variable {wL wr : World} {b8 b9 : Nat} {fa ga fb gb : Int → Bool} {a8 c8 a9 c9 : Option Addr} {n8 m8 k8 l8 n9 m9 k9 l9 : Nat}
theorem OB.below {w' : World} (o : OB wL b8 b9 (.slice a8 n8 m8) (.slice c8 k8 l8) (.slice a9 n9 m9) (.slice c9 k9 l9) fa ga fb gb wr) (hb : Below wr.heap.size wr w') : OB wL b8 b9 (.slice a8 n8 m8) (.slice c8 k8 l8) (.slice a9 n9 m9) (.slice c9 k9 l9) fa ga fb gb w' :=
  ⟨Buf.then_ o.B hb, hop hb o.P8, hop hb o.P9, o.Ra.keep hb, o.Rb.keep hb, o.h8, o.h9, o.ne⟩
theorem OB.put8 (o : OB wL b8 b9 (.slice a8 n8 m8) (.slice c8 k8 l8) (.slice a9 n9 m9) (.slice c9 k9 l9) fa ga fb gb wr) {y1 : Option Addr} {m1 d1 : Nat} {y2 : Option Addr} {m2 d2 : Nat} {f' g' : Int → Bool} (r : Rc wr (.slice y1 m1 d1) (.slice y2 m2 d2) f' g') :
    OB wL b8 b9 (.slice y1 m1 d1) (.slice y2 m2 d2) (.slice a9 n9 m9) (.slice c9 k9 l9) f' g' fb gb (wr.setRow b8 #[.slice y1 m1 d1, .slice y2 m2 d2]) :=
  ⟨Mid.below_row o.B b8 _ o.h8, setRow_heap _ _ _ _ _ _ o.P8, (setRow_other _ _ _ _ (Ne.symm o.ne)).trans o.P9, r.set o.P8 _ _ _ _ _ _, o.Rb.set o.P8 _ _ _ _ _ _, o.h8, o.h9, o.ne⟩
theorem OB.put9 (o : OB wL b8 b9 (.slice a8 n8 m8) (.slice c8 k8 l8) (.slice a9 n9 m9) (.slice c9 k9 l9) fa ga fb gb wr) {y1 : Option Addr} {m1 d1 : Nat} {y2 : Option Addr} {m2 d2 : Nat} {f' g' : Int → Bool} (r : Rc wr (.slice y1 m1 d1) (.slice y2 m2 d2) f' g') :
    OB wL b8 b9 (.slice a8 n8 m8) (.slice c8 k8 l8) (.slice y1 m1 d1) (.slice y2 m2 d2) fa ga f' g' (wr.setRow b9 #[.slice y1 m1 d1, .slice y2 m2 d2]) :=
  ⟨Mid.below_row o.B b9 _ o.h9, (setRow_other _ _ _ _ o.ne).trans o.P8, setRow_heap _ _ _ _ _ _ o.P9, o.Ra.set o.P9 _ _ _ _ _ _, r.set o.P9 _ _ _ _ _ _, o.h8, o.h9, o.ne⟩
end
/-- Nothing of the first numbers lies outside. -/
theorem first_none {N D : LP} {f : Int → Bool} {n : Int} (hN : Is N f) (n0 : 0 ≤ n) (hD : Is D (fun x => hasB (firstL N n) x && !hasB N x)) : D = [] := by
  refine hD.unique (Is.nil fun x => ?_)
  have h := (firstL_spec hN.canon n n0).2.2.1 x
  cases e : hasB (firstL N n) x with
  | false => rfl
  | true => rw [h e]; rfl
/-- The first numbers are those below an end. -/
theorem first_cut {N C : LP} {f : Int → Bool} {n s t : Int} {j : Nat} (hN : Is N f) (iN : Inside N 0 64) (n0 : 0 ≤ n) (hj : j + 1 = (firstL N n).length) (hl : (firstL N n)[j]? = some (s, t)) (hC : Is C (fun z => hasB N z && decide (0 ≤ z ∧ z < t))) : C = firstL N n := by
  obtain ⟨h1, _, h3, h4, _⟩ := firstL_spec hN.canon n n0
  refine hC.canon.ext h1 fun x => ?_
  rw [hC.has]
  have st := h1.at hl
  simp only at st
  cases e : hasB (firstL N n) x with
  | true =>
    rw [h3 x e, Bool.true_and]
    apply decide_eq_true
    obtain ⟨p, hp, p1, p2⟩ := hasB_iff.1 (h3 x e)
    have := iN p hp
    refine ⟨by omega, ?_⟩
    obtain ⟨i, q, hq, q1, q2⟩ := has_at.1 e
    have hi := (List.getElem?_eq_some_iff.1 hq).1
    rcases Nat.lt_or_ge i j with c | c
    · have := h1.get c hq hl; simp only at this; omega
    · obtain rfl : i = j := by omega
      rw [hl] at hq; cases hq; exact q2
  | false =>
    cases hx : hasB N x with
    | false => rfl
    | true =>
      have := h4 (t - 1) x (has_at.2 ⟨j, _, hl, by simp only; omega, by simp only; omega⟩) hx e
      rw [Bool.true_and]
      exact decide_eq_false fun h => by omega
theorem first_inside {N : LP} {f : Int → Bool} {n : Int} (hN : Is N f) (iN : Inside N 0 64) (n0 : 0 ≤ n) : Canon (firstL N n) ∧ Inside (firstL N n) 0 64 ∧ (firstL N n).length ≤ 32 ∧ lenL (firstL N n) = min n (lenL N) := by
  obtain ⟨h1, h2, h3, _⟩ := firstL_spec hN.canon n n0
  have i := inside_of_has h1 iN h3
  exact ⟨h1, i, canon_short h1 i, h2⟩
end Rcv
end Go.Proofs.Ytfneiomdgcoakaa
