/- What the walk of FilterStream needs: Push from the start and later; the memory within the loop. -/
import Derived.Test.YtmnafkfjmeoklaaFsE
import Derived.Test.YtmnafkfjmeoklaaFsF
import Derived.Test.YtmnafkfjmeoklaaInvB
set_option linter.unusedVariables false
namespace Go.Proofs.Ytmnafkfjmeoklaa
open Go.RowKit Wi Dice
namespace Fil
theorem push_first {w : World} {v x : Value} {n s d : Nat} {T X : Nat → Int} {fac N0 : Int} (hv : SV w v n T) (hx : SV w x d X) (fg : FG n T fac s) (n0 : 0 ≤ N0) (n9 : N0 ≤ 65535) (hp : d ≤ 1000) (d1 : 1 ≤ d) (hX : ∀ j, j < d → -1073741823 ≤ X j ∧ X j ≤ 1073741823) :
    Calls Try.prog 17 #[.agg #[v, .int .i64 fac, .int .i64 s, .slice none 0 0, .int .i64 N0], x] w fun e w' => (∃ v' u' r, e = .returned (.tuple #[.agg #[v', .int .i64 fac, .int .i64 s, u', .int .i64 (N0 + d)], r, .int .i64 0]) ∧ SVf w.heap.size w' v' n T ∧ SVf w.heap.size w' u' (kept n d) (fun j => X (d - kept n d + j)) ∧
      Buf.Own w.heap.size w' r (ints (outs T X n s fac N0 d))) ∧ Below w.heap.size w w' := by
  have k0 : kept n 0 = 0 := by simp [kept]
  have h := push_any (p := 0) (d := d) (X := X) (u := .slice none 0 0) ⟨hv, by rw [k0]; exact ⟨none, 0, rfl, Nat.le_refl _, by decide, fun h => absurd h (by omega)⟩⟩ (sv_congr hx (fun j _ => by rw [Nat.zero_add])) fg n0 n9 (by omega) d1 (fun j hj => hX j (by omega))
  simp only [k0, Nat.zero_add, Nat.sub_zero, Int.natCast_zero, Int.add_zero] at h
  exact h
theorem push_next {w : World} {v u x : Value} {n s p q : Nat} {T X : Nat → Int} {fac N0 : Int} (hf : Fed w v u n p T X) (hpq : p < q) (hx : SV w x (q - p) (fun j => X (p + j))) (fg : FG n T fac s) (n0 : 0 ≤ N0) (n9 : N0 ≤ 65535) (hq : q ≤ 1000) (hX : ∀ j, j < q → -1073741823 ≤ X j ∧ X j ≤ 1073741823) :
    Calls Try.prog 17 #[.agg #[v, .int .i64 fac, .int .i64 s, u, .int .i64 (N0 + p)], x] w fun e w' => (∃ v' u' r, e = .returned (.tuple #[.agg #[v', .int .i64 fac, .int .i64 s, u', .int .i64 (N0 + q)], r, .int .i64 0]) ∧ SVf w.heap.size w' v' n T ∧ SVf w.heap.size w' u' (kept n q) (fun j => X (q - kept n q + j)) ∧
      Buf.Own w.heap.size w' r (ints (outs T (fun j => X (p - kept n p + j)) n s fac (N0 + ((p - kept n p : Nat) : Int)) (q - (p - kept n p))))) ∧ Below w.heap.size w w' := by
  have e : p + (q - p) = q := by omega
  have h := push_any (d := q - p) hf hx fg n0 n9 (by omega) (by omega) (fun j hj => hX j (by omega))
  have e2 : N0 + (p : Int) + ((q - p : Nat) : Int) = N0 + q := by omega
  rw [e2, e] at h
  exact h
/-- The memory in the loop: w9: at its start; b8: the feed's block. -/
structure FL (w w9 : World) (a0 : Option Addr) (len0 cap0 : Nat) (z0 : List Int) (b8 n s : Nat) (T X : Nat → Int) (fac N0 : Int) (wr : World) (p : Nat) (out : Value) : Prop where
  size : w9.heap.size ≤ wr.heap.size
  keep : ∀ k, k < w9.heap.size → k ≠ w.heap.size → k ≠ b8 → wr.heap[k]? = w9.heap[k]?
  di : Di w wr w.heap.size a0 len0 cap0 z0
  feed : ∃ va vc ua uc, wr.heap[b8]? = some (.cells #[.slice va n vc, .int .i64 fac, .int .i64 s, .slice ua (kept n p) uc, .int .i64 (N0 + p)] 45 (0, 0)) ∧ SVf (w.heap.size + 1) wr (.slice va n vc) n T ∧ SVf (w.heap.size + 1) wr (.slice ua (kept n p) uc) (kept n p) (fun j => X (p - kept n p + j))
  own : Buf.Own w9.heap.size wr out (ints (outs T X n s fac N0 p))
theorem FL.below {w w9 wr w' : World} {a0 : Option Addr} {len0 cap0 : Nat} {z0 : List Int} {b8 n s p : Nat} {T X : Nat → Int} {fac N0 : Int} {out : Value} (h : FL w w9 a0 len0 cap0 z0 b8 n s T X fac N0 wr p out) (hb : Below wr.heap.size wr w') : FL w w9 a0 len0 cap0 z0 b8 n s T X fac N0 w' p out := by
  refine ⟨Nat.le_trans h.size hb.size, fun k h1 h2 h3 => (hb.block k (Nat.lt_of_lt_of_le h1 h.size)).trans (h.keep k h1 h2 h3), h.di.below hb, ?_, h.own.below hb⟩
  obtain ⟨va, vc, ua, uc, h1, h2, h3⟩ := h.feed
  exact ⟨va, vc, ua, uc, hop h1 hb, h2.below hb, h3.below hb⟩
theorem FL.left {w w9 wr w' : World} {a0 : Option Addr} {len0 cap0 : Nat} {z0 : List Int} {b8 n s p : Nat} {T X : Nat → Int} {fac N0 : Int} {out : Value} (h : FL w w9 a0 len0 cap0 z0 b8 n s T X fac N0 wr p out) (hw : w.heap.size < w9.heap.size) (hne : b8 ≠ w.heap.size) (hl : Dice.Left w wr w' w.heap.size a0 len0 cap0 z0) : FL w w9 a0 len0 cap0 z0 b8 n s T X fac N0 w' p out := by
  refine ⟨Nat.le_trans h.size hl.far.size, fun k h1 h2 h3 => (hl.far.block k (Nat.lt_of_lt_of_le h1 h.size) (by simpa using h2)).trans (h.keep k h1 h2 h3), hl.di, ?_, own_grown h.own hl.far hw⟩
  obtain ⟨va, vc, ua, uc, h1, h2, h3⟩ := h.feed
  exact ⟨va, vc, ua, uc, (hl.far.block b8 (Array.getElem?_eq_some_iff.1 h1).1 (by simpa using hne)).trans h1, h2.grown hl.far (by omega), h3.grown hl.far (by omega)⟩
/-- What lies below the loop's own blocks stays. -/
theorem FL.old {w w9 wr : World} {a0 : Option Addr} {len0 cap0 : Nat} {z0 : List Int} {b8 n s p m : Nat} {T X Y : Nat → Int} {fac N0 : Int} {out v : Value} (h : FL w w9 a0 len0 cap0 z0 b8 n s T X fac N0 wr p out) (hs : SVf (w.heap.size + 1) w9 v m Y) (h8 : ∃ a k c x1 x2 x3 x4 t, w9.heap[b8]? = some (.cells #[.slice a k c, x1, x2, x3, x4] t (0, 0))) : SVf (w.heap.size + 1) wr v m Y := by
  by_cases h0 : 0 < m
  · refine hs.kept h.size fun b hb hl hc _ => h.keep b hl (by omega) fun e => ?_
    subst e
    obtain ⟨a, k, c, x1, x2, x3, x4, t, e8⟩ := h8
    have := hc h0
    rw [(cells5 e8).1] at this
    simp at this
  · obtain ⟨a, c, e, h1, h2, h3⟩ := hs
    exact ⟨a, c, e, h1, h2, fun h => absurd h h0⟩
theorem sv_mid {w : World} {a : Option Addr} {L c : Nat} {X : Nat → Int} (h : SV w (.slice a L c) L X) (p q : Nat) (hp : p ≤ q) (hq : q ≤ L) : SV w (.slice (if c = p then a else Option.map (fun x => x.add p) a) (q - p) (c - p)) (q - p) (fun j => X (p + j)) := by
  obtain ⟨a', c', e, h1, h2, h3⟩ := h
  cases e
  refine ⟨_, _, rfl, by omega, by omega, fun h0 => ?_⟩
  obtain ⟨b, off, rfl, hb, hc⟩ := h3 (by omega)
  refine ⟨b, off + p, ?_, hb, fun j hj => ?_⟩
  · rw [if_neg (by omega)]; simp [Addr.add]
  · rw [Nat.add_assoc]; exact hc (p + j) (by omega)
/-- A feed, a list of outputs, and what Push returns. -/
def RsA (B n s k : Nat) (fac num : Int) (T Y : Nat → Int) (v : Value) (w : World) : Prop := ∃ va vc ua uc, v = .agg #[.slice va n vc, .int .i64 fac, .int .i64 s, .slice ua k uc, .int .i64 num] ∧ SVf B w (.slice va n vc) n T ∧ SVf B w (.slice ua k uc) k Y
def RsL (B m : Nat) (Y : List Int) (v : Value) (w : World) : Prop := ∃ ra rc, v = .slice ra m rc ∧ SVf B w (.slice ra m rc) m (fn Y)
def RsT (B n s k m : Nat) (fac num : Int) (T Y : Nat → Int) (l : List Int) (v : Value) (w : World) : Prop := ∃ x y, v = .tuple #[x, y, .int .i64 0] ∧ RsA B n s k fac num T Y x w ∧ RsL B m l y w
theorem RsA.below {B n s k : Nat} {fac num : Int} {T Y : Nat → Int} {v : Value} {w w' : World} (h : RsA B n s k fac num T Y v w) (hb : Below w.heap.size w w') : RsA B n s k fac num T Y v w' := by
  obtain ⟨a, b, c, d, e, h1, h2⟩ := h
  exact ⟨a, b, c, d, e, h1.below hb, h2.below hb⟩
theorem RsL.below {B m : Nat} {Y : List Int} {v : Value} {w w' : World} (h : RsL B m Y v w) (hb : Below w.heap.size w w') : RsL B m Y v w' := by
  obtain ⟨a, b, e, h1⟩ := h
  exact ⟨a, b, e, h1.below hb⟩
theorem RsT.below {B n s k m : Nat} {fac num : Int} {T Y : Nat → Int} {l : List Int} {v : Value} {w w' : World} (h : RsT B n s k m fac num T Y l v w) (hb : Below w.heap.size w w') : RsT B n s k m fac num T Y l v w' := by
  obtain ⟨x, y, e, h1, h2⟩ := h
  exact ⟨x, y, e, h1.below hb, h2.below hb⟩
theorem sf_form {B n : Nat} {w : World} {v : Value} {X : Nat → Int} (h : SVf B w v n X) : ∃ a c, v = .slice a n c := by
  obtain ⟨a, c, e, _⟩ := h
  exact ⟨a, c, e⟩
theorem rsT_of {B n s k m : Nat} {fac num : Int} {T Y : Nat → Int} {l : List Int} {v u r : Value} {w : World} (h1 : SVf B w v n T) (h2 : SVf B w u k Y) (h3 : SVf B w r l.length (fn l)) (hm : m = l.length) : RsT B n s k m fac num T Y l (.tuple #[.agg #[v, .int .i64 fac, .int .i64 s, u, .int .i64 num], r, .int .i64 0]) w := by
  subst hm
  obtain ⟨a, c, rfl⟩ := sf_form h1
  obtain ⟨b, d, rfl⟩ := sf_form h2
  obtain ⟨e, f, rfl⟩ := sf_form h3
  exact ⟨_, _, rfl, ⟨_, _, _, _, rfl, h1, h2⟩, ⟨_, _, rfl, h3⟩⟩
theorem lst_fn (l : List Int) : lst l.length (fn l) = l := by
  apply List.ext_getElem
  · simp [lst]
  · intro i h1 h2; simp [lst, fn, List.getD_eq_getElem?_getD, h2]
theorem src_list {B m : Nat} {w : World} {v : Value} {l : List Int} (hm : m = l.length) (h : SVf B w v m (fn l)) : Src Try.prog 1 22 v m (ints l) w := by
  subst hm
  have := src_sv h.sv
  rwa [lst_fn] at this
theorem SVf.past {B : Nat} {w w' : World} {v u : Value} {n : Nat} {X : Nat → Int} (h : SVf B w v n X) (hg : w.grownBy w' u.ownBlock) (hu : ∀ k, u.ownBlock = some k → k < B) : SVf B w' v n X :=
  h.kept hg.size fun b hb hl _ _ => hg.block b hl fun e => by have := hu b e.symm; omega
theorem own_blk {B : Nat} {w : World} {v : Value} {xs : List Value} (h : Buf.Own B w v xs) : ∀ k, v.ownBlock = some k → B ≤ k ∧ k < w.heap.size := by
  intro k hk
  rcases h with ⟨rfl, _⟩ | ⟨g, cap, rfl, hb⟩
  · cases hk
  · simp only [Value.ownBlock, Option.some.injEq] at hk
    subst hk
    exact ⟨hb.base, hb.lt⟩
theorem FL.round {w w9 wr w' : World} {a0 : Option Addr} {len0 cap0 : Nat} {z0 : List Int} {b8 n s p q : Nat} {T X : Nat → Int} {fac N0 : Int} {out v' : Value} {YL : List Int} {B fc gc : Nat} {fa ga : Option Addr}
    (h : FL w w9 a0 len0 cap0 z0 b8 n s T X fac N0 wr p out) (own' : Buf.Own w9.heap.size w' v' (ints (outs T X n s fac N0 p) ++ ints YL)) (hg : wr.grownBy w' out.ownBlock) (hcat : outs T X n s fac N0 p ++ YL = outs T X n s fac N0 q)
    (hB : w9.heap.size ≤ B) (hu : ∀ k, out.ownBlock = some k → k < B) (hA : SVf B wr (.slice fa n fc) n T) (hC : SVf B wr (.slice ga (kept n q) gc) (kept n q) (fun j => X (q - kept n q + j)))
    (hw : w.heap.size < w9.heap.size) (h8 : b8 < w9.heap.size) (hne : w.heap.size < b8) {y0 y1 y2 y3 y4 : Value} (e0 : y0 = .slice fa n fc) (e1 : y1 = .int .i64 fac) (e2 : y2 = .int .i64 s) (e3 : y3 = .slice ga (kept n q) gc) (e4 : y4 = .int .i64 (N0 + q)) :
    FL w w9 a0 len0 cap0 z0 b8 n s T X fac N0 (((((w'.setCell ⟨b8, 0, none⟩ y0).setCell ⟨b8, 1, none⟩ y1).setCell ⟨b8, 2, none⟩ y2).setCell ⟨b8, 3, none⟩ y3).setCell ⟨b8, 4, none⟩ y4) q v' := by
  subst e0 e1 e2 e3 e4
  obtain ⟨va, vc, ua, uc, P8, -, -⟩ := h.feed
  have ob := own_blk h.own
  have sz := h.size
  have P8' : w'.heap[b8]? = _ := (hg.block b8 (by omega) (fun e => by have := (ob b8 e.symm).1; omega)).trans P8
  have bel : Below w.heap.size w w' := Buf.below_grown h.di.bel (h.own.mono (by omega)) h.di.bel.size hg
  have A1 := (hA.past hg hu).mono (show w.heap.size + 1 ≤ B by omega)
  have C1 := (hC.past hg hu).mono (show w.heap.size + 1 ≤ B by omega)
  refine ⟨by have := hg.size; simp; omega, fun k h1 h2 h3 => ?_, ?_, ⟨fa, fc, ga, gc, set5 P8' _ _ _ _ _, A1.feed P8' _ _ _ _ _, C1.feed P8' _ _ _ _ _⟩, ?_⟩
  · exact (blk_set5 w' k b8 h3 _ _ _ _ _).trans ((hg.block k (by omega) (fun e => by have := (ob k e.symm).1; omega)).trans (h.keep k h1 h2 h3))
  · refine ⟨h.di.base, by have := hg.size; have := h.di.lt; simp; omega, below_set5 bel b8 (by omega) _ _ _ _ _, h.di.row, h.di.small, ?_⟩
    obtain ⟨pos, hp, hb⟩ := h.di.blk
    exact ⟨pos, hp, (blk_set5 w' _ b8 (by omega) _ _ _ _ _).trans ((hg.block _ h.di.lt (fun e => by have := (ob _ e.symm).1; omega)).trans hb)⟩
  · rw [← hcat, ints_app]
    exact own_set5 own' b8 h8 _ _ _ _ _
section
variable {P : Program}
/-- append at one operation. -/
theorem wp_app {o : Oper} {a : Act} {K : Act → World → Prop} {Q : Exit → Act → World → Prop} (s x : Operand) (t tx : TypeId)
    (ho : o.op = .call { callee := .builtin .append, args := #[s, x], argTypes := #[t, tx] })
    (e : TypeId) (i : TypeInfo) (z : Value) (bytes : Nat) (ht : P.underlying t = some (.slice e)) (hi : P.info? e = some i) (hz : i.zero = some z) (hsize : i.size = 1) (hby : i.bytes = bytes) (hzs : z.cells.size = 1)
    {B : Nat} {w : World} {v : Value} {xs : List Value} (hv : a.eval s = v) (h : Buf.Own B w v xs) (hB : B ≤ w.heap.size)
    (xv : Value) (n : Nat) (news : List Value) (hx : a.eval x = xv) (hs : Src P 1 tx xv n news w) (h63 : xs.length + n ≤ maxLen) (hbytes : (xs.length + n) * bytes ≤ 140737488355328)
    (hK : ∀ v' w', Buf.Own B w' v' (xs ++ news) → w.grownBy w' v.ownBlock → K (a.put o.dst v') w') : o.wp P a w K Q := by
  obtain ⟨v', w', hrun, r1, r2⟩ := Buf.run_append (P := P) t tx o.type e i z bytes ht hi hz hsize hby hzs h hB xv n news hs h63 hbytes
  unfold Oper.wp
  simp [execOp, ho, resolve, invoke, builtin, hv, hx, hrun, Result.andThen]
  exact hK v' w' r1 r2
end
end Fil
namespace Inv
section
variable {P : Program} {ops : Array Oper} {Q : Exit → Act → World → Prop} {md : Region.Mode}
/-- Two operations may come up. -/
theorem both {i k : Nat} {fuel : Nat} {listed : Array Bool} {a : Act} {w : World} (hi : i < ops.size) (hk : k < ops.size) (hr : Region.ready md ops listed = [i, k]) (hg : (ops[i]).guard = none) (hg' : (ops[k]).guard = none)
    (h : ∀ K : Act → World → Prop, Shut (∀ a' w', wpAny P md ops Q fuel (listed.setIfInBounds i true) a' w' → K a' w') → (ops[i]).wp P a w K Q)
    (h' : ∀ K : Act → World → Prop, Shut (∀ a' w', wpAny P md ops Q fuel (listed.setIfInBounds k true) a' w' → K a' w') → (ops[k]).wp P a w K Q) : wpAny P md ops Q (fuel + 1) listed a w := by
  refine ⟨fun h0 => (by rw [h0] at hr; cases hr), fun j hj => ?_⟩
  rw [hr] at hj
  unfold wpOp
  rcases List.mem_cons.1 hj with rfl | hj
  · have hw : Region.wanted ops[j] (yielded ops a.tmps) = true := by simp [Region.wanted, hg]
    simp only [Array.getElem?_eq_getElem hi, hw, if_true]
    exact .inl (h _ fun a' w' h1 => h1)
  · obtain rfl : j = k := by simpa using hj
    have hw : Region.wanted ops[j] (yielded ops a.tmps) = true := by simp [Region.wanted, hg']
    simp only [Array.getElem?_eq_getElem hk, hw, if_true]
    exact .inl (h' _ fun a' w' h1 => h1)
end
end Inv
end Go.Proofs.Ytmnafkfjmeoklaa
