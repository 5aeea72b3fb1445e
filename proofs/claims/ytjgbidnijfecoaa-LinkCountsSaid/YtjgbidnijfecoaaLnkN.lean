/- What the loop of LinkCounts keeps. -/
import Derived.Test.YtjgbidnijfecoaaLnkK
import Derived.Test.YtjgbidnijfecoaaLnkL
set_option linter.unusedVariables false
set_option linter.unusedSimpArgs false
namespace Go.Proofs.Ytjgbidnijfecoaa
open Go.RowKit Wi Dice
namespace Lnk
/-- The wire in its block, the map, the dice. -/
structure LC (W w0 : World) (g : Nat) (a : Option Addr) (len cap : Nat) (zs : List Int) (b4 bm : Nat) (now ord : Int) (r : Value) (L : List T3) (n : Nat) (f : Int → Int) (wr : World) : Prop where
  hd : Di W w0 g a len cap zs
  own : OwnT wr w0.heap.size r L
  wire : wr.heap[b4]? = some (.cells #[.int .i64 now, .int .i64 ord, r] 29 (0, 0))
  map : MapI wr bm n f
  left : Dice.Left W w0 wr g a len cap zs
  h4 : w0.heap.size ≤ b4
  hm : w0.heap.size ≤ bm
section
variable {W w0 wr w' : World} {g : Nat} {a : Option Addr} {len cap : Nat} {zs : List Int} {b4 bm : Nat} {now ord : Int} {r : Value} {L : List T3} {n : Nat} {f : Int → Int}
theorem LC.mapblk (h : LC W w0 g a len cap zs b4 bm now ord r L n f wr) : ∃ es ck, wr.heap[bm]? = some (.map es ck) := by
  obtain ⟨D, ⟨es, ck, h1, _⟩, _⟩ := h.map
  exact ⟨es, ck, h1⟩
theorem LC.ne (h : LC W w0 g a len cap zs b4 bm now ord r L n f wr) : b4 ≠ bm := by
  obtain ⟨es, ck, h1⟩ := h.mapblk
  intro e
  have h2 := h.wire
  rw [e, h1] at h2
  cases h2
theorem LC.below (h : LC W w0 g a len cap zs b4 bm now ord r L n f wr) (hb' : Below wr.heap.size wr w') : LC W w0 g a len cap zs b4 bm now ord r L n f w' :=
  ⟨h.hd, own_below h.own hb', hb hb' h.wire, h.map.below hb', h.left.below hb', h.h4, h.hm⟩
theorem LC.roll (h : LC W w0 g a len cap zs b4 bm now ord r L n f wr) (l : Dice.Left W wr w' g a len cap zs) : LC W w0 g a len cap zs b4 bm now ord r L n f w' := by
  have hg := h.hd.lt
  have h1 := h.h4
  have h2 := h.hm
  exact ⟨h.hd, own_left h.own h.left.di (by decide) l, lblk l h.wire (by omega), h.map.kept l.far (by simp; omega), h.left.trans l, h1, h2⟩
theorem LC.store (h : LC W w0 g a len cap zs b4 bm now ord r L n f wr) {r' : Value} {L' : List T3} {now' ord' : Int} (ho : OwnT wr w0.heap.size r' L') :
    LC W w0 g a len cap zs b4 bm now' ord' r' L' n f (((wr.setCell ⟨b4, 0, none⟩ (.int .i64 now')).setCell ⟨b4, 1, none⟩ (.int .i64 ord')).setCell ⟨b4, 2, none⟩ r') := by
  refine ⟨h.hd, own_ty3 ho h.wire (by decide) _ _ _, st3all h.wire _ _ _, h.map.kept (row := some b4) ⟨rfl, rfl, rfl, by simp, fun k hk hne => ?_⟩ (fun e => h.ne (by injection e with e; exact e.symm)), Dice.Left.past h.hd h.left (below_set3 (Below.refl _ _) h.h4 _ _ _), h.h4, h.hm⟩
  have hk4 : k ≠ b4 := fun e => hne (by rw [e])
  exact (Below.heap_setCell _ ⟨b4, 2, none⟩ _ k hk4).trans ((Below.heap_setCell _ ⟨b4, 1, none⟩ _ k hk4).trans (Below.heap_setCell _ ⟨b4, 0, none⟩ _ k hk4))
theorem LC.put (h : LC W w0 g a len cap zs b4 bm now ord r L n f wr) {n' : Nat} {f' : Int → Int} (hm : MapI w' bm n' f') (hg : wr.grownBy w' (some bm)) : LC W w0 g a len cap zs b4 bm now ord r L n' f' w' := by
  obtain ⟨es, ck, h1⟩ := h.mapblk
  refine ⟨h.hd, own_kept h.own fun k hk => hg.block k (h.own.lt k hk).2 ?_, (hg.block b4 (Array.getElem?_eq_some_iff.1 h.wire).1 (fun e => h.ne (by injection e))).trans h.wire, hm, Dice.Left.past h.hd h.left ⟨hg.os, hg.tape, hg.output, hg.size, fun k hk => hg.block k (by have := h.left.far.size; omega) (fun e => by injection e with e; have := h.hm; omega)⟩, h.h4, h.hm⟩
  intro e
  injection e with e
  subst e
  rcases h.own.2 with ⟨rfl, _⟩ | ⟨g', cap', cur, rfl, _, h2, _⟩
  · cases hk
  · simp only [Value.ownBlock, Option.some.injEq] at hk
    subst hk
    rw [h1] at h2
    cases h2
theorem LC.cells (h : LC W w0 g a len cap zs b4 bm now ord r L n f wr) : wr.cell? ⟨b4, 0, none⟩ = some (.int .i64 now) ∧ wr.cell? ⟨b4, 1, none⟩ = some (.int .i64 ord) ∧ wr.cell? ⟨b4, 2, none⟩ = some r := c3 h.wire
theorem LC.fr (h : LC W w0 g a len cap zs b4 bm now ord r L n f wr) : wr.frozen? ⟨b4, 0, none⟩ = false ∧ wr.frozen? ⟨b4, 1, none⟩ = false ∧ wr.frozen? ⟨b4, 2, none⟩ = false := f3 h.wire
end
/-- What the numbers of the loop say: at tick j, behind at most m messages. -/
structure LN (j m : Nat) (ord : Int) (L : List T3) (n : Nat) (f : Int → Int) (tot got : Int) : Prop where
  good : Good j ord L
  ordj : ord ≤ m
  len : L.length ≤ 3 * m
  nn : n ≤ 3 * m
  far : ∀ p ∈ L, p.1 ≤ 21
  cnt : ∀ t : Int, (j : Int) + 1 ≤ t → f t = cnt t L
  sum : tot = got + L.length
  g0 : 0 ≤ got
  g9 : tot ≤ 3 * m
theorem LN.mono {j m : Nat} {ord : Int} {L : List T3} {n : Nat} {f : Int → Int} {tot got : Int} (h : LN j m ord L n f tot got) : LN j (m + 1) ord L n f tot got :=
  ⟨h.good, by have := h.ordj; omega, by have := h.len; omega, by have := h.nn; omega, h.far, h.cnt, h.sum, h.g0, by have := h.g9; omega⟩
theorem LN.tick {j m : Nat} {ord : Int} {L : List T3} {n : Nat} {f : Int → Int} {tot got : Int} (h : LN j m ord L n f tot got) (hj : j < 30) :
    LN (j + 1) m ord (L.drop (due ((j : Int) + 1) L)) n f tot (got + (due ((j : Int) + 1) L : Nat)) := by
  have hg := good_tick h.good (by omega)
  have hd := due_le ((j : Int) + 1) L
  refine ⟨by have : ((j + 1 : Nat) : Int) = (j : Int) + 1 := by omega
             rw [this]; exact hg, h.ordj, by rw [List.length_drop]; have := h.len; omega, h.nn, fun p hp => h.far p (List.mem_of_mem_drop hp), fun t ht => ?_, by rw [h.sum, List.length_drop]; omega, by have := h.g0; omega, h.g9⟩
  rw [h.cnt t (by omega), cnt_rest h.good (by omega)]
theorem LN.send {j m : Nat} {ord : Int} {L : List T3} {n : Nat} {f : Int → Int} {tot got : Int} (h : LN j m ord L n f tot got) (hj : j < 14) (hm : m ≤ 30) {dl : Int} {q n' : Nat} {f' : Int → Int} (s : ByteArray) (hs : s.size ≤ 4096) (d0 : 0 ≤ dl) (d5 : dl ≤ 5) (hq : q ≤ 3)
    (hn : n' ≤ n + q) (hf : ∀ t, f' t = f t + (Lnk.cnt t (news ((j : Int) + 1 + dl) ord s q) : Nat)) : LN j (m + 1) (ord + 1) (insN ((j : Int) + 1 + dl) ord s L q) n' f' (tot + q) got := by
  have hl := h.len
  have ho := h.ordj
  refine ⟨good_insN h.good d0 q hs (by omega) (by omega) (by omega), by omega, by rw [insN_length]; omega, by have := h.nn; omega, fun p hp => ?_, fun t ht => ?_, by rw [h.sum, insN_length]; omega, h.g0, by have := h.g9; omega⟩
  · rcases List.mem_append.1 ((insN_perm _ ord s L q).mem_iff.1 hp) with h1 | h1
    · obtain ⟨k, hk, rfl⟩ := news_mem h1
      simp only; omega
    · exact h.far p h1
  · rw [hf, h.cnt t ht, cnt_insN]; omega
theorem LN.small {j m : Nat} {ord : Int} {L : List T3} {n : Nat} {f : Int → Int} {tot got : Int} (h : LN j m ord L n f tot got) (t : Int) (ht : (j : Int) + 1 ≤ t) : 0 ≤ f t ∧ f t ≤ 3 * m := by
  rw [h.cnt t ht]
  have h1 : Lnk.cnt t L ≤ L.length := List.countP_le_length
  have := h.len
  omega
end Lnk
end Go.Proofs.Ytjgbidnijfecoaa
