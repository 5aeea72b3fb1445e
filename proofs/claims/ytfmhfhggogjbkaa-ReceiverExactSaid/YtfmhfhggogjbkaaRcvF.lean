/- The memory of ReceiverOnce: the dice, a receiver, a map. -/
import Derived.Test.YtfmhfhggogjbkaaRcvAE
import Derived.Test.YtfmhfhggogjbkaaMapB
set_option linter.unusedVariables false
set_option linter.unusedSimpArgs false
namespace Go.Proofs.Ytfmhfhggogjbkaa
open Go.RowKit
namespace InvT
section
variable {P : Program} {ops : Array Oper} {Q : Exit → Act → World → Prop} {md : Region.Mode}
theorem both {i k : Nat} {fuel : Nat} {listed : Array Bool} {a : Act} {w : World} (hi : i < ops.size) (hk : k < ops.size) (hr : Region.ready md ops listed = [i, k]) (hg : (ops[i]).guard = none) (hg' : (ops[k]).guard = none)
    (h : ∀ K : Act → World → Prop, Shut (∀ a' w', wpAny P md ops Q fuel (listed.setIfInBounds i true) a' w' → K a' w') → (ops[i]).wp P a w K Q)
    (h' : ∀ K : Act → World → Prop, Shut (∀ a' w', wpAny P md ops Q fuel (listed.setIfInBounds k true) a' w' → K a' w') → (ops[k]).wp P a w K Q) : wpAny P md ops Q (fuel + 1) listed a w := by
  refine ⟨fun h0 => (by rw [h0] at hr; cases hr), fun j hj => ?_⟩
  rw [hr] at hj
  unfold wpOp
  rcases List.mem_cons.1 hj with rfl | hj
  · have hw : Region.wanted ops[j] (yielded ops a.tmps) = true := by simp [Region.wanted, hg]
    simp only [Array.getElem?_eq_getElem hi, hw, if_true]
    exact .inl (h _ fun a' w' h1 => h1)
  · obtain rfl : j = k := by simpa using hj
    have hw : Region.wanted ops[j] (yielded ops a.tmps) = true := by simp [Region.wanted, hg']
    simp only [Array.getElem?_eq_getElem hk, hw, if_true]
    exact .inl (h' _ fun a' w' h1 => h1)
end
end InvT
open Dice
namespace Rcv
open Spn
theorem Its.far {w w' : World} {v : Value} {L : LP} {d : Nat} (h : Its w v L) (hg : w.grownBy w' (some d)) (hd : ∀ x : Int, w.cell? ⟨d, 0, none⟩ ≠ some (.int .i64 x)) : Its w' v L := by
  rcases h with h | ⟨g, cc, rfl, h1, h2, h3⟩
  · exact .inl h
  · refine .inr ⟨g, cc, rfl, h1, Nat.lt_of_lt_of_le h2 hg.size, fun k q hq => ?_⟩
    obtain ⟨k1, k2⟩ := h3 k q hq
    have hne : g ≠ d := by
      rintro rfl
      have hk0 : 0 < L.length := by have := (List.getElem?_eq_some_iff.1 hq).1; omega
      exact hd _ (h3 0 L[0] (List.getElem?_eq_getElem hk0)).1
    have e := hg.block g h2 (by simpa using hne)
    exact ⟨(World.cell?_of_block (a := ⟨g, _, none⟩) e).trans k1, (World.cell?_of_block (a := ⟨g, _, none⟩) e).trans k2⟩
theorem Sv.far {w w' : World} {v : Value} {f : Int → Bool} {k d : Nat} (h : Sv w v f k) (hg : w.grownBy w' (some d)) (hd : ∀ x : Int, w.cell? ⟨d, 0, none⟩ ≠ some (.int .i64 x)) : Sv w' v f k := by
  obtain ⟨N, h1, h2⟩ := h
  exact ⟨N, Rcv.Its.far h1 hg hd, h2⟩
theorem Rc.far {w w' : World} {vg vl : Value} {f g : Int → Bool} {d : Nat} (h : Rc w vg vl f g) (hg : w.grownBy w' (some d)) (hd : ∀ x : Int, w.cell? ⟨d, 0, none⟩ ≠ some (.int .i64 x)) : Rc w' vg vl f g :=
  ⟨Rcv.Sv.far h.got hg hd, Rcv.Sv.far h.lost hg hd, h.apart⟩
theorem dice_cell {W w : World} {d : Nat} {a : Option Addr} {len cap : Nat} {zs : List Int} (h : Di W w d a len cap zs) : ∀ x : Int, w.cell? ⟨d, 0, none⟩ ≠ some (.int .i64 x) := fun x e => by
  obtain ⟨p, _, hb⟩ := h.blk
  rw [(Di.cells hb).1] at e
  cases e
theorem grown_row (w : World) (b : Nat) (cs : Array Value) : w.grownBy (w.setRow b cs) (some b) := ⟨rfl, rfl, rfl, by simp, fun k _ hk => setRow_other w b k cs (fun e => hk (by rw [e]))⟩
theorem map_ne {w : World} {b p n : Nat} {f : Int → Bool} {cs : Array Value} {t : TypeId} {fr : Nat × Nat} (h : Mb.MapB w b n f) (hp : w.heap[p]? = some (.cells cs t fr)) : b ≠ p := by
  obtain ⟨D, ⟨es, clock, hb, _⟩, _⟩ := h
  rintro rfl
  rw [hp] at hb; cases hb
theorem map_cell {w : World} {b n : Nat} {f : Int → Bool} (h : Mb.MapB w b n f) : ∀ x : Int, w.cell? ⟨b, 0, none⟩ ≠ some (.int .i64 x) := by
  obtain ⟨D, ⟨es, clock, hb, _⟩, _⟩ := h
  intro x e
  simp [World.cell?, hb] at e
/-- The memory of the law. -/
structure ON (W w0 : World) (d : Nat) (a : Option Addr) (len cap : Nat) (zs : List Int) (b4 bm : Nat) (x1 : Option Addr) (n1 c1 : Nat) (x2 : Option Addr) (n2 c2 : Nat) (f g s : Int → Bool) (m : Nat) (wr : World) : Prop where
  L : Dice.Left W w0 wr d a len cap zs
  P : wr.heap[b4]? = some (.cells #[.slice x1 n1 c1, .slice x2 n2 c2] 46 (0, 0))
  R : Rc wr (.slice x1 n1 c1) (.slice x2 n2 c2) f g
  M : Mb.MapB wr bm m s
  h : Di W w0 d a len cap zs
  h4 : w0.heap.size ≤ b4
  hm : w0.heap.size ≤ bm
section
variable {W w0 : World} {d : Nat} {a : Option Addr} {len cap : Nat} {zs : List Int} {b4 bm : Nat} {x1 : Option Addr} {n1 c1 : Nat} {x2 : Option Addr} {n2 c2 : Nat} {f g s : Int → Bool} {m : Nat} {wr : World}
theorem ON.left {w' : World} (o : ON W w0 d a len cap zs b4 bm x1 n1 c1 x2 n2 c2 f g s m wr) (hl : Dice.Left W wr w' d a len cap zs) : ON W w0 d a len cap zs b4 bm x1 n1 c1 x2 n2 c2 f g s m w' :=
  ⟨o.L.trans hl, (hl.far.block b4 (Array.getElem?_eq_some_iff.1 o.P).1 (by have := o.h.lt; have := o.h4; simp; omega)).trans o.P, o.R.far hl.far (dice_cell o.L.di), o.M.kept hl.far (by have := o.h.lt; have := o.hm; simp; omega), o.h, o.h4, o.hm⟩
theorem ON.below {w' : World} (o : ON W w0 d a len cap zs b4 bm x1 n1 c1 x2 n2 c2 f g s m wr) (hb : Below wr.heap.size wr w') : ON W w0 d a len cap zs b4 bm x1 n1 c1 x2 n2 c2 f g s m w' :=
  ⟨o.L.below hb, hop hb o.P, o.R.keep hb, o.M.below hb, o.h, o.h4, o.hm⟩
theorem ON.put (o : ON W w0 d a len cap zs b4 bm x1 n1 c1 x2 n2 c2 f g s m wr) {y1 : Option Addr} {m1 d1 : Nat} {y2 : Option Addr} {m2 d2 : Nat} {f' g' : Int → Bool} (r : Rc wr (.slice y1 m1 d1) (.slice y2 m2 d2) f' g') :
    ON W w0 d a len cap zs b4 bm y1 m1 d1 y2 m2 d2 f' g' s m (wr.setRow b4 #[.slice y1 m1 d1, .slice y2 m2 d2]) :=
  ⟨Dice.Left.past o.h o.L (Mid.below_row (Below.refl _ _) b4 _ o.h4), setRow_heap _ _ _ _ _ _ o.P, r.set o.P _ _ _ _ _ _, o.M.kept (grown_row wr b4 _) (by have := map_ne o.M o.P; simpa using this), o.h, o.h4, o.hm⟩
theorem ON.map {w' : World} {s' : Int → Bool} {m' : Nat} (o : ON W w0 d a len cap zs b4 bm x1 n1 c1 x2 n2 c2 f g s m wr) (hm' : Mb.MapB w' bm m' s') (hg : wr.grownBy w' (some bm)) : ON W w0 d a len cap zs b4 bm x1 n1 c1 x2 n2 c2 f g s' m' w' :=
  ⟨Dice.Left.past o.h o.L ((Below.refl _ _).grown hg o.L.far.size fun k hk => by injection hk with hk; rw [← hk]; exact o.hm), (hg.block b4 (Array.getElem?_eq_some_iff.1 o.P).1 (by have := map_ne o.M o.P; simp; exact fun e => this e.symm)).trans o.P, o.R.far hg (map_cell o.M), hm', o.h, o.h4, o.hm⟩
end
end Rcv
end Go.Proofs.Ytfmhfhggogjbkaa
