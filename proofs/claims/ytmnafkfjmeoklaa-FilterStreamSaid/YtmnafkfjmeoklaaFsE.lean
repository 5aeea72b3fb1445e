/- Contract of filter.Push. -/
import Derived.Test.YtmnafkfjmeoklaaFsD
import Derived.Test.YtmnafkfjmeoklaaInv
import Derived.Deep.DeepCutAuto
set_option linter.unusedVariables false
set_option linter.unusedSimpArgs false
namespace Go.Proofs.Ytmnafkfjmeoklaa
open Go.RowKit Wi Dice
namespace Fil
theorem hop6 {w w' : World} {b : Nat} {o : Obj} (hb : Below w.heap.size w w') (e : w.heap[b]? = some o) : w'.heap[b]? = some o := hop e hb
theorem sv_from {w : World} {a : Option Addr} {q c : Nat} {X : Nat → Int} (h : SV w (.slice a q c) q X) (lo : Nat) (hl : lo ≤ q) : SV w (.slice (if c = lo then a else Option.map (fun x => x.add lo) a) (q - lo) (c - lo)) (q - lo) (fun j => X (lo + j)) := by
  obtain ⟨a', c', e, h1, h2, h3⟩ := h
  cases e
  refine ⟨_, _, rfl, by omega, by omega, fun h0 => ?_⟩
  obtain ⟨b, off, rfl, hb, hc⟩ := h3 (by omega)
  refine ⟨b, off + lo, ?_, hb, fun j hj => ?_⟩
  · rw [if_neg (by omega)]; simp [Addr.add]
  · rw [Nat.add_assoc]; exact hc (lo + j) (by omega)
/-- The same from the start of a block from B on. -/
def SVf (B : Nat) (w : World) (v : Value) (n : Nat) (X : Nat → Int) : Prop := ∃ a c, v = .slice a n c ∧ n ≤ c ∧ c ≤ maxLen ∧ (0 < n → ∃ b, a = some ⟨b, 0, none⟩ ∧ B ≤ b ∧ b < w.heap.size ∧ ∀ j, j < n → w.cell? ⟨b, j, none⟩ = some (.int .i64 (X j)))
theorem SVf.sv {B : Nat} {w : World} {v : Value} {n : Nat} {X : Nat → Int} (h : SVf B w v n X) : SV w v n X := by
  obtain ⟨a, c, e, h1, h2, h3⟩ := h
  exact ⟨a, c, e, h1, h2, fun h0 => by obtain ⟨b, e1, _, e2, e3⟩ := h3 h0; exact ⟨b, 0, e1, e2, fun j hj => by rw [Nat.zero_add]; exact e3 j hj⟩⟩
theorem SVf.mono {B B' : Nat} {w : World} {v : Value} {n : Nat} {X : Nat → Int} (h : SVf B w v n X) (hb : B' ≤ B) : SVf B' w v n X := by
  obtain ⟨a, c, e, h1, h2, h3⟩ := h
  exact ⟨a, c, e, h1, h2, fun h0 => by obtain ⟨b, e1, e4, e2, e3⟩ := h3 h0; exact ⟨b, e1, by omega, e2, e3⟩⟩
/-- It stays while its block does. -/
theorem SVf.kept {B : Nat} {w w' : World} {v : Value} {n : Nat} {X : Nat → Int} (h : SVf B w v n X) (hs : w.heap.size ≤ w'.heap.size) (hk : ∀ b, B ≤ b → b < w.heap.size → (0 < n → w.cell? ⟨b, 0, none⟩ = some (.int .i64 (X 0))) → (0 < n → v.ownBlock = some b) → w'.heap[b]? = w.heap[b]?) : SVf B w' v n X := by
  obtain ⟨a, c, rfl, h1, h2, h3⟩ := h
  refine ⟨a, c, rfl, h1, h2, fun h0 => ?_⟩
  obtain ⟨b, rfl, e4, e2, e3⟩ := h3 h0
  exact ⟨b, rfl, e4, by omega, fun j hj => (World.cell?_of_block (a := ⟨b, j, none⟩) (hk b e4 e2 (fun _ => e3 0 h0) (fun _ => rfl))).trans (e3 j hj)⟩
theorem SVf.below {B : Nat} {w w' : World} {v : Value} {n : Nat} {X : Nat → Int} (h : SVf B w v n X) (hb : Below w.heap.size w w') : SVf B w' v n X := h.kept hb.size fun b _ hl _ _ => hb.block b hl
theorem SVf.grown {B d : Nat} {w w' : World} {v : Value} {n : Nat} {X : Nat → Int} (h : SVf B w v n X) (hg : w.grownBy w' (some d)) (hd : d < B) : SVf B w' v n X := h.kept hg.size fun b hb hl _ _ => hg.block b hl (by simp; omega)
theorem sf_own {B n : Nat} {w : World} {v : Value} {X : Nat → Int} (h : Buf.Own B w v (ints (lst n X))) : SVf B w v n X := by
  rcases h with ⟨rfl, hl⟩ | ⟨g, cap, rfl, hbb⟩
  · have : (ints (lst n X)).length = 0 := by rw [hl]; rfl
    rw [ints_len, lst_len] at this
    subst this
    exact ⟨none, 0, rfl, Nat.le_refl _, by decide, fun h => absurd h (by omega)⟩
  · rw [ints_len, lst_len] at hbb ⊢
    exact ⟨_, _, rfl, hbb.le, hbb.max, fun h0 => ⟨g, rfl, hbb.base, hbb.lt, fun j hj => by rw [hbb.cells j hj]; simp [ints, lst, hj]⟩⟩
theorem sf_list {B : Nat} {w : World} {v : Value} {l : List Int} (h : Buf.Own B w v (ints l)) : SVf B w v l.length (fn l) := by
  have e : lst l.length (fn l) = l := by
    apply List.ext_getElem
    · simp [lst]
    · intro i h1 h2; simp [lst, fn, List.getD_eq_getElem?_getD, h2]
  exact sf_own (by rw [e]; exact h)
theorem cell_set5 (w : World) (g b k : Nat) (hne : b ≠ g) (y0 y1 y2 y3 y4 : Value) :
    (((((w.setCell ⟨b, 0, none⟩ y0).setCell ⟨b, 1, none⟩ y1).setCell ⟨b, 2, none⟩ y2).setCell ⟨b, 3, none⟩ y3).setCell ⟨b, 4, none⟩ y4).cell? ⟨g, k, none⟩ = w.cell? ⟨g, k, none⟩ := by
  rw [World.cell?_setCell_far _ _ _ _ hne, World.cell?_setCell_far _ _ _ _ hne, World.cell?_setCell_far _ _ _ _ hne, World.cell?_setCell_far _ _ _ _ hne, World.cell?_setCell_far _ _ _ _ hne]
theorem blk_set5 (w : World) (g b : Nat) (hne : g ≠ b) (y0 y1 y2 y3 y4 : Value) :
    (((((w.setCell ⟨b, 0, none⟩ y0).setCell ⟨b, 1, none⟩ y1).setCell ⟨b, 2, none⟩ y2).setCell ⟨b, 3, none⟩ y3).setCell ⟨b, 4, none⟩ y4).heap[g]? = w.heap[g]? :=
  (Below.heap_setCell _ ⟨b, 4, none⟩ y4 g hne).trans ((Below.heap_setCell _ ⟨b, 3, none⟩ y3 g hne).trans ((Below.heap_setCell _ ⟨b, 2, none⟩ y2 g hne).trans ((Below.heap_setCell _ ⟨b, 1, none⟩ y1 g hne).trans (Below.heap_setCell w ⟨b, 0, none⟩ y0 g hne))))
theorem SVf.set5 {B : Nat} {w : World} {v : Value} {n : Nat} {X : Nat → Int} (h : SVf B w v n X) (g : Nat) (hg : g < B) (y0 y1 y2 y3 y4 : Value) :
    SVf B (((((w.setCell ⟨g, 0, none⟩ y0).setCell ⟨g, 1, none⟩ y1).setCell ⟨g, 2, none⟩ y2).setCell ⟨g, 3, none⟩ y3).setCell ⟨g, 4, none⟩ y4) v n X :=
  h.kept (by simp) fun b hb _ _ _ => blk_set5 w b g (by omega) _ _ _ _ _
/-- A block whose first cell holds a slice is another one. -/
theorem SVf.feed {B b : Nat} {w : World} {v : Value} {n : Nat} {X : Nat → Int} {a : Option Addr} {k c : Nat} {x1 x2 x3 x4 : Value} {t : TypeId} (h : SVf B w v n X) (hb : w.heap[b]? = some (.cells #[.slice a k c, x1, x2, x3, x4] t (0, 0))) (y0 y1 y2 y3 y4 : Value) :
    SVf B (((((w.setCell ⟨b, 0, none⟩ y0).setCell ⟨b, 1, none⟩ y1).setCell ⟨b, 2, none⟩ y2).setCell ⟨b, 3, none⟩ y3).setCell ⟨b, 4, none⟩ y4) v n X := by
  by_cases h0 : 0 < n
  · refine h.kept (by simp) fun g _ _ hc _ => blk_set5 w g b (fun e => ?_) _ _ _ _ _
    subst e
    have := hc h0
    rw [(cells5 hb).1] at this
    simp at this
  · obtain ⟨a, c, e, h1, h2, h3⟩ := h
    exact ⟨a, c, e, h1, h2, fun h => absurd h h0⟩
theorem lst_app (m d : Nat) (Y Z : Nat → Int) (h : ∀ j, j < d → Z j = Y (m + j)) : lst m Y ++ lst d Z = lst (m + d) Y := by
  unfold lst
  rw [List.range_add, List.map_append, List.map_map]
  congr 1
  refine List.map_congr_left fun j hj => ?_
  exact h j (List.mem_range.1 hj)
set_option maxRecDepth 100000 in
set_option maxHeartbeats 8000000 in
theorem push_any {w : World} {v u x : Value} {n s p d : Nat} {T X : Nat → Int} {fac N0 : Int} (hf : Fed w v u n p T X) (hx : SV w x d (fun j => X (p + j))) (fg : FG n T fac s) (n0 : 0 ≤ N0) (n9 : N0 ≤ 65535) (hp : p + d ≤ 1000) (d1 : 1 ≤ d) (hX : ∀ j, j < p + d → -1073741823 ≤ X j ∧ X j ≤ 1073741823) :
    Calls Try.prog 17 #[.agg #[v, .int .i64 fac, .int .i64 s, u, .int .i64 (N0 + p)], x] w fun e w' => (∃ v' u' r, e = .returned (.tuple #[.agg #[v', .int .i64 fac, .int .i64 s, u', .int .i64 (N0 + p + d)], r, .int .i64 0]) ∧ SVf w.heap.size w' v' n T ∧ SVf w.heap.size w' u' (kept n (p + d)) (fun j => X (p + d - kept n (p + d) + j)) ∧
      Buf.Own w.heap.size w' r (ints (outs T (fun j => X (p - kept n p + j)) n s fac (N0 + ((p - kept n p : Nat) : Int)) (p + d - (p - kept n p))))) ∧ Below w.heap.size w w' := by
  have n1 := fg.n1
  have n2 := fg.n2
  obtain ⟨m, hm⟩ : ∃ m, m = kept n p := ⟨_, rfl⟩
  have hm1 : m < n := by rw [hm]; unfold kept; omega
  have hm2 : m ≤ p := by rw [hm]; unfold kept; omega
  obtain ⟨q, hq⟩ : ∃ q, q = m + d := ⟨_, rfl⟩
  obtain ⟨kp, hk⟩ : ∃ kp, kp = kept n (p + d) := ⟨_, rfl⟩
  have hkq : kp ≤ q := by rw [hk, hq, hm]; unfold kept; omega
  have hmin : min (q : Int) ((n : Int) - 1) = (kp : Int) := by rw [hk, hq, hm]; unfold kept; omega
  have hk9 : kp ≤ 1000000 := by rw [hk]; unfold kept; omega
  obtain ⟨lo, hlo⟩ : ∃ lo : Nat, lo = q - kp := ⟨_, rfl⟩
  have hpast := hf.past
  rw [← hm] at hpast
  have hcat : lst m (fun j => X (p - m + j)) ++ lst d (fun j => X (p + j)) = lst q (fun j => X (p - m + j)) := by
    rw [hq]; exact lst_app _ _ _ _ (fun j _ => by show X _ = X _; congr 1; omega)
  have hY : ∀ j, j < q → -1073741823 ≤ X (p - m + j) ∧ X (p - m + j) ≤ 1073741823 := fun j hj => hX _ (by omega)
  have VF := Lib.hid fun w' (hb : Below w.heap.size w w') => validFeed_any (num := N0 + p) (hf.taps.below hb) (hpast.below hb) fg hm1 (fun j hj => hY j (by omega)) (by omega) (by omega)
  have IR := Lib.hid fun w' (hb : Below w.heap.size w w') => inRange_any (hx.below hb) (by omega) (fun j hj => hX (p + j) (by omega))
  have HV := Lib.hid hf.taps
  have HP := Lib.hid hpast
  have HX := Lib.hid hx
  have FGH := Lib.hid fg
  have hle : (d : Int) ≤ 65536 := by omega
  obtain ⟨a, c, rfl, -, -, -⟩ := hf.taps
  obtain ⟨pa, pc, rfl, -, -, -⟩ := hpast
  obtain ⟨xa, xc, rfl, -, -, -⟩ := hx
  obtain ⟨num, hnum⟩ : ∃ num, num = N0 + (p : Int) := ⟨_, rfl⟩
  rw [← hnum] at VF ⊢
  have W0 := Lib.hid (two_below w (.cells #[.slice a n c, .int .i64 fac, .int .i64 s, .slice pa m pc, .int .i64 num] 45) (.cells #[.slice none 0 0, .int .i64 0, .int .i64 0, .slice none 0 0, .int .i64 0] 45))
  have P0 := Lib.hid (two_old w (.cells #[.slice a n c, .int .i64 fac, .int .i64 s, .slice pa m pc, .int .i64 num] 45) (.cells #[.slice none 0 0, .int .i64 0, .int .i64 0, .slice none 0 0, .int .i64 0] 45))
  have P1 := Lib.hid (two_new w (.cells #[.slice a n c, .int .i64 fac, .int .i64 s, .slice pa m pc, .int .i64 num] 45) (.cells #[.slice none 0 0, .int .i64 0, .int .i64 0, .slice none 0 0, .int .i64 0] 45))
  have hnb1 : num ≤ 70000 := by omega
  have hnb0 : (m : Int) ≤ num := by omega
  replace hnum := Lib.hid hnum
  replace hm := Lib.hid hm
  replace hk := Lib.hid hk
  replace hcat := Lib.hid hcat
  replace hY := Lib.hid hY
  have hq' := Lib.hid hq
  have hlq := Lib.hid (show lo ≤ q by omega)
  have hqk := Lib.hid (show q - lo = kp by omega)
  have hpq := Lib.hid (show p - m + lo = p + d - kp by omega)
  have hqi : (m : Int) + (d : Int) = (q : Int) := by omega
  clear hX fg hf hq
  go_enter Try.func17, Try.ntmps17
  go_wp2_with fail
  refine (VF.out _ W0.out).mono ?_
  rintro e w1 ⟨rfl, hb⟩
  replace P0 := Lib.hid (hop P0.out hb)
  replace P1 := Lib.hid (hop P1.out hb)
  replace W0 := Lib.hid (Buf.then_ W0.out hb)
  clear hb VF
  go_wp2_with fail
  refine (IR.out _ W0.out).mono ?_
  rintro e w2 ⟨rfl, hb⟩
  replace P0 := Lib.hid (hop P0.out hb)
  replace P1 := Lib.hid (hop P1.out hb)
  replace W0 := Lib.hid (Buf.then_ W0.out hb)
  clear hb IR
  obtain ⟨y0, y1, y2, y3, y4⟩ := cells5 P0.out
  have WA := Lib.hid (Buf.then_ W0.out (new_block (w := w2) (.cells #[.slice pa m pc, .slice xa d xc] 22)))
  have CC := Lib.hid (concat_any (heap_alloc_new w2 (.cells #[.slice pa m pc, .slice xa d xc] 22)) (HP.out.below WA.out) (HX.out.below WA.out) (by omega) (by omega))
  replace P0 := Lib.hid (hop P0.out (new_block (w := w2) (.cells #[.slice pa m pc, .slice xa d xc] 22)))
  replace P1 := Lib.hid (hop P1.out (new_block (w := w2) (.cells #[.slice pa m pc, .slice xa d xc] 22)))
  go_wp2_with fail
  refine CC.out.mono ?_
  rintro e w3 ⟨⟨r1, rfl, ho⟩, hb⟩
  rw [hcat.out] at ho
  obtain ⟨ra, rc, rfl⟩ := own_form ho
  have RS := Lib.hid (sv_of_own ho)
  replace P0 := Lib.hid (hop P0.out hb)
  replace P1 := Lib.hid (hop P1.out hb)
  replace W0 := Lib.hid (Buf.then_ WA.out hb)
  clear hb CC WA y0 y1 y2 y3 y4 ho
  obtain ⟨y0, y1, y2, y3, y4⟩ := cells5 P0.out
  have OP := Lib.hid (outputs_any (num - (m : Int)) (HV.out.below W0.out) RS.out FGH.out (by omega) hY.out (by omega) (by omega))
  go_wp2_with fail
  refine OP.out.mono ?_
  rintro e w6 ⟨⟨res, f0, rfl, ho⟩, hb⟩
  have hsz0 := W0.out.size
  have lt5 := (Array.getElem?_eq_some_iff.1 P1.out).1
  have RO := Lib.hid (ho.mono (show w.heap.size + 2 ≤ w3.heap.size by omega))
  clear lt5
  replace RS := Lib.hid (RS.out.below hb)
  replace P0 := Lib.hid (hop P0.out hb)
  replace P1 := Lib.hid (hop P1.out hb)
  replace W0 := Lib.hid (Buf.then_ W0.out hb)
  clear hb OP y0 y1 y2 y3 y4 ho
  obtain ⟨y0, y1, y2, y3, y4⟩ := cells5 P0.out
  have CF := Lib.hid fun w' (hb : Below w6.heap.size w6 w') => cloneFilter_any (fac := fac) (s := (s : Int)) (HV.out.below (Buf.then_ W0.out hb)) (show n ≤ 1000000 by omega)
  go_upto_region 10 with fail
  clear y0 y1 y2 y3 y4
  have hw0 : Below w6.heap.size w6 w6.drew := (Below.refl _ _).drew
  replace hlo := Lib.hid (show IntKind.i64.wrap ((q : Int) - (kp : Int)) = (lo : Int) by rw [IntKind.wrap_i64]; omega)
  have hnd := Lib.hid (show IntKind.i64.wrap (num + (d : Int)) = num + (d : Int) by rw [IntKind.wrap_i64]; omega)
  clear hmin
  refine wp_region_noPanic ?_
  refine wp_region_any (by kernel_rfl) ?_
  refine Inv.wpAny_inv (fun k => k == 17) [50, 51, 52, 53, 54, 55, 56, 57, 58, 59, 60, 61, 62, 63, 64, 65, 11] (fun w' => Below w6.heap.size w6 w') (fun _ w1 w2 => Below w1.heap.size w1 w2) (fun k => ([fun v_ w_ => v_ = .pointer (some ⟨w.heap.size, 0, none⟩), fun v_ w_ => v_ = .agg #[.slice a n c, .int .i64 fac, .int .i64 s], fun v_ w_ => ∃ ta tc, v_ = .agg #[.slice ta n tc, .int .i64 fac, .int .i64 s] ∧ Buf.Own w6.heap.size w_ (.slice ta n tc) (ints (lst n T)), fun v_ w_ => v_ = .slice ra q rc, fun v_ w_ => v_ = .slice ra q rc, fun v_ w_ => v_ = .int .i64 q, fun v_ w_ => v_ = .int .i64 kp, fun v_ w_ => v_ = .int .i64 lo, fun v_ w_ => ∃ sa sc, v_ = .slice sa kp sc ∧ SV w_ (.slice sa kp sc) kp (fun j => X (p + d - kp + j)), fun v_ w_ => ∃ ya yc, v_ = .slice ya kp yc ∧ Buf.Own w6.heap.size w_ (.slice ya kp yc) (ints (lst kp (fun j => X (p + d - kp + j)))), fun v_ w_ => v_ = .pointer (some ⟨w.heap.size, 4, none⟩), fun v_ w_ => v_ = .int .i64 num, fun v_ w_ => v_ = .slice xa d xc, fun v_ w_ => v_ = .int .i64 d, fun v_ w_ => v_ = .int .i64 (num + d), fun v_ w_ => ∃ ta tc ya yc, v_ = .agg #[.slice ta n tc, .int .i64 fac, .int .i64 s, .slice ya kp yc, .int .i64 (num + d)] ∧ Buf.Own w6.heap.size w_ (.slice ta n tc) (ints (lst n T)) ∧ Buf.Own w6.heap.size w_ (.slice ya kp yc) (ints (lst kp (fun j => X (p + d - kp + j)))), fun v_ w_ => ∃ b, v_ = .pointer (some ⟨b, 0, none⟩) ∧ w6.heap.size ≤ b ∧ w_.heap[b]? = some (.cells #[.slice none 0 0, .int .i64 0, .int .i64 0, .slice none 0 0, .int .i64 0] 45 (0, 0)), fun v_ w_ => True] : List (Value → World → Prop)).getD k (fun _ _ => True)) _ (fun σ => by simp only [Inv.putAll, List.foldl_cons, List.foldl_nil, Act.put, List.setIfInBounds_toArray, List.set_cons_zero, List.set_cons_succ]; rfl) (by kernel_rfl) (by kernel_rfl) ?_ hw0 ?_ ?_ 1 #[true, true, true, true, true, true, true, true, true, true, true, true, true, true, true, true, true, false] (by kernel_rfl) (by kernel_rfl) ?_
  · intro j k v w1 w2 hjk hv hr
    rcases k with _ | k
    · exact hv
    rcases k with _ | k
    · exact hv
    rcases k with _ | k
    · exact (by obtain ⟨x1, x2, h1, h2⟩ := hv; exact ⟨x1, x2, h1, h2.below hr⟩)
    rcases k with _ | k
    · exact hv
    rcases k with _ | k
    · exact hv
    rcases k with _ | k
    · exact hv
    rcases k with _ | k
    · exact hv
    rcases k with _ | k
    · exact hv
    rcases k with _ | k
    · exact (by obtain ⟨x1, x2, h1, h2⟩ := hv; exact ⟨x1, x2, h1, h2.below hr⟩)
    rcases k with _ | k
    · exact (by obtain ⟨x1, x2, h1, h2⟩ := hv; exact ⟨x1, x2, h1, h2.below hr⟩)
    rcases k with _ | k
    · exact hv
    rcases k with _ | k
    · exact hv
    rcases k with _ | k
    · exact hv
    rcases k with _ | k
    · exact hv
    rcases k with _ | k
    · exact hv
    rcases k with _ | k
    · exact (by obtain ⟨x1, x2, x3, x4, h1, h2, h3⟩ := hv; exact ⟨x1, x2, x3, x4, h1, h2.below hr, h3.below hr⟩)
    rcases k with _ | k
    · exact (by obtain ⟨b, h1, h2, h3⟩ := hv; exact ⟨b, h1, h2, hop h3 hr⟩)
    rcases k with _ | k
    · exact hv
    · exact hv
  · intro k t hl hd
    rcases k with _ | k
    · exact absurd hl (by decide +kernel)
    rcases k with _ | k
    · exact absurd hl (by decide +kernel)
    rcases k with _ | k
    · exact absurd hl (by decide +kernel)
    rcases k with _ | k
    · exact absurd hl (by decide +kernel)
    rcases k with _ | k
    · exact absurd hl (by decide +kernel)
    rcases k with _ | k
    · exact absurd hl (by decide +kernel)
    rcases k with _ | k
    · exact absurd hl (by decide +kernel)
    rcases k with _ | k
    · exact absurd hl (by decide +kernel)
    rcases k with _ | k
    · exact absurd hl (by decide +kernel)
    rcases k with _ | k
    · exact absurd hl (by decide +kernel)
    rcases k with _ | k
    · exact absurd hl (by decide +kernel)
    rcases k with _ | k
    · exact absurd hl (by decide +kernel)
    rcases k with _ | k
    · exact absurd hl (by decide +kernel)
    rcases k with _ | k
    · exact absurd hl (by decide +kernel)
    rcases k with _ | k
    · exact absurd hl (by decide +kernel)
    rcases k with _ | k
    · exact absurd hl (by decide +kernel)
    rcases k with _ | k
    · exact absurd hl (by decide +kernel)
    rcases k with _ | k
    · exact absurd hl (by decide +kernel)
    · simp at hd
  · show Inv.Steps _ _ _ _ _ _ _ _ [0, 1, 2, 3, 4, 5, 6, 7, 8, 9, 10, 11, 12, 13, 14, 15, 16]
    refine Inv.Steps.go (by decide) (by rfl) (fun σ wx hw hd K hK => ?_) ?_
    · simp only [List.getElem_toArray, List.getElem_cons_zero, List.getElem_cons_succ, Act.put, List.setIfInBounds_toArray, List.set_cons_zero, List.set_cons_succ] at hK ⊢
      go_simp
      exact hK.out _ _ hw (Below.refl _ _) (rfl)
    refine Inv.Steps.go (by decide) (by rfl) (fun σ wx hw hd K hK => ?_) ?_
    · obtain e50 : (σ 50) = .pointer (some ⟨w.heap.size, 0, none⟩) := hd 0 (some 50) (by kernel_rfl) (by rfl)
      simp only [List.getElem_toArray, List.getElem_cons_zero, List.getElem_cons_succ, Act.put, List.setIfInBounds_toArray, List.set_cons_zero, List.set_cons_succ, e50] at hK ⊢
      obtain ⟨y0, y1, y2, y3, y4⟩ := cells5 (hop6 hw P0.out)
      go_simp
      exact hK.out _ _ hw (Below.refl _ _) (rfl)
    refine Inv.Steps.go (by decide) (by rfl) (fun σ wx hw hd K hK => ?_) ?_
    · obtain e51 : (σ 51) = .agg #[.slice a n c, .int .i64 fac, .int .i64 s] := hd 1 (some 51) (by kernel_rfl) (by rfl)
      simp only [List.getElem_toArray, List.getElem_cons_zero, List.getElem_cons_succ, Act.put, List.setIfInBounds_toArray, List.set_cons_zero, List.set_cons_succ, e51] at hK ⊢
      go_simp
      go_at_call 30
      refine (CF.out wx hw).mono ?_
      rintro e w1 ⟨⟨r, rfl, ho⟩, hb⟩
      obtain ⟨ta, tc, rfl⟩ := own_form ho
      have hsz := hw.size
      dsimp only
      exact hK.out _ _ (Buf.then_ hw hb) hb (⟨ta, tc, rfl, ho.mono hsz⟩)
    refine Inv.Steps.go (by decide) (by rfl) (fun σ wx hw hd K hK => ?_) ?_
    · simp only [List.getElem_toArray, List.getElem_cons_zero, List.getElem_cons_succ, Act.put, List.setIfInBounds_toArray, List.set_cons_zero, List.set_cons_succ] at hK ⊢
      go_simp
      exact hK.out _ _ hw (Below.refl _ _) (rfl)
    refine Inv.Steps.go (by decide) (by rfl) (fun σ wx hw hd K hK => ?_) ?_
    · simp only [List.getElem_toArray, List.getElem_cons_zero, List.getElem_cons_succ, Act.put, List.setIfInBounds_toArray, List.set_cons_zero, List.set_cons_succ] at hK ⊢
      go_simp
      exact hK.out _ _ hw (Below.refl _ _) (rfl)
    refine Inv.Steps.go (by decide) (by rfl) (fun σ wx hw hd K hK => ?_) ?_
    · obtain e54 : (σ 54) = .slice ra q rc := hd 4 (some 54) (by kernel_rfl) (by rfl)
      simp only [List.getElem_toArray, List.getElem_cons_zero, List.getElem_cons_succ, Act.put, List.setIfInBounds_toArray, List.set_cons_zero, List.set_cons_succ, e54] at hK ⊢
      go_simp
      exact hK.out _ _ hw (Below.refl _ _) (rfl)
    refine Inv.Steps.go (by decide) (by rfl) (fun σ wx hw hd K hK => ?_) ?_
    · simp only [List.getElem_toArray, List.getElem_cons_zero, List.getElem_cons_succ, Act.put, List.setIfInBounds_toArray, List.set_cons_zero, List.set_cons_succ] at hK ⊢
      go_simp
      exact hK.out _ _ hw (Below.refl _ _) (rfl)
    refine Inv.Steps.go (by decide) (by rfl) (fun σ wx hw hd K hK => ?_) ?_
    · obtain e55 : (σ 55) = .int .i64 q := hd 5 (some 55) (by kernel_rfl) (by rfl)
      obtain e56 : (σ 56) = .int .i64 kp := hd 6 (some 56) (by kernel_rfl) (by rfl)
      simp only [List.getElem_toArray, List.getElem_cons_zero, List.getElem_cons_succ, Act.put, List.setIfInBounds_toArray, List.set_cons_zero, List.set_cons_succ, e55, e56] at hK ⊢
      go_simp
      exact hK.out _ _ hw (Below.refl _ _) (congrArg (Value.int .i64) hlo.out)
    refine Inv.Steps.go (by decide) (by rfl) (fun σ wx hw hd K hK => ?_) ?_
    · obtain e53 : (σ 53) = .slice ra q rc := hd 3 (some 53) (by kernel_rfl) (by rfl)
      obtain e57 : (σ 57) = .int .i64 lo := hd 7 (some 57) (by kernel_rfl) (by rfl)
      simp only [List.getElem_toArray, List.getElem_cons_zero, List.getElem_cons_succ, Act.put, List.setIfInBounds_toArray, List.set_cons_zero, List.set_cons_succ, e53, e57] at hK ⊢
      go_simp
      simp only [if_pos hlq.out, hqk.out]
      go_simp
      exact hK.out _ _ hw (Below.refl _ _) (⟨_, _, rfl, sv_congr (hqk.out ▸ sv_from (RS.out.below hw) lo hlq.out) (fun j _ => by show X _ = X _; congr 1; have := hpq.out; omega)⟩)
    refine Inv.Steps.go (by decide) (by rfl) (fun σ wx hw hd K hK => ?_) ?_
    · obtain ⟨sa, sc, e58, s58⟩ : ∃ sa sc, (σ 58) = .slice sa kp sc ∧ SV wx (.slice sa kp sc) kp (fun j => X (p + d - kp + j)) := hd 8 (some 58) (by kernel_rfl) (by rfl)
      simp only [List.getElem_toArray, List.getElem_cons_zero, List.getElem_cons_succ, Act.put, List.setIfInBounds_toArray, List.set_cons_zero, List.set_cons_succ, e58] at hK ⊢
      go_simp
      go_at_call 26
      refine (clone_sv s58 hk9).mono ?_
      rintro e w1 ⟨⟨r, rfl, ho⟩, hb⟩
      obtain ⟨ya, yc, rfl⟩ := own_form ho
      have hsz := hw.size
      dsimp only
      exact hK.out _ _ (Buf.then_ hw hb) hb (⟨ya, yc, rfl, ho.mono hsz⟩)
    refine Inv.Steps.go (by decide) (by rfl) (fun σ wx hw hd K hK => ?_) ?_
    · simp only [List.getElem_toArray, List.getElem_cons_zero, List.getElem_cons_succ, Act.put, List.setIfInBounds_toArray, List.set_cons_zero, List.set_cons_succ] at hK ⊢
      go_simp
      exact hK.out _ _ hw (Below.refl _ _) (rfl)
    refine Inv.Steps.go (by decide) (by rfl) (fun σ wx hw hd K hK => ?_) ?_
    · obtain e60 : (σ 60) = .pointer (some ⟨w.heap.size, 4, none⟩) := hd 10 (some 60) (by kernel_rfl) (by rfl)
      simp only [List.getElem_toArray, List.getElem_cons_zero, List.getElem_cons_succ, Act.put, List.setIfInBounds_toArray, List.set_cons_zero, List.set_cons_succ, e60] at hK ⊢
      obtain ⟨y0, y1, y2, y3, y4⟩ := cells5 (hop6 hw P0.out)
      go_simp
      exact hK.out _ _ hw (Below.refl _ _) (rfl)
    refine Inv.Steps.go (by decide) (by rfl) (fun σ wx hw hd K hK => ?_) ?_
    · simp only [List.getElem_toArray, List.getElem_cons_zero, List.getElem_cons_succ, Act.put, List.setIfInBounds_toArray, List.set_cons_zero, List.set_cons_succ] at hK ⊢
      go_simp
      exact hK.out _ _ hw (Below.refl _ _) (rfl)
    refine Inv.Steps.go (by decide) (by rfl) (fun σ wx hw hd K hK => ?_) ?_
    · obtain e62 : (σ 62) = .slice xa d xc := hd 12 (some 62) (by kernel_rfl) (by rfl)
      simp only [List.getElem_toArray, List.getElem_cons_zero, List.getElem_cons_succ, Act.put, List.setIfInBounds_toArray, List.set_cons_zero, List.set_cons_succ, e62] at hK ⊢
      go_simp
      exact hK.out _ _ hw (Below.refl _ _) (rfl)
    refine Inv.Steps.go (by decide) (by rfl) (fun σ wx hw hd K hK => ?_) ?_
    · obtain e61 : (σ 61) = .int .i64 num := hd 11 (some 61) (by kernel_rfl) (by rfl)
      obtain e63 : (σ 63) = .int .i64 d := hd 13 (some 63) (by kernel_rfl) (by rfl)
      simp only [List.getElem_toArray, List.getElem_cons_zero, List.getElem_cons_succ, Act.put, List.setIfInBounds_toArray, List.set_cons_zero, List.set_cons_succ, e61, e63] at hK ⊢
      go_simp
      exact hK.out _ _ hw (Below.refl _ _) (congrArg (Value.int .i64) hnd.out)
    refine Inv.Steps.go (by decide) (by rfl) (fun σ wx hw hd K hK => ?_) ?_
    · obtain ⟨ta2, tc2, e52, o52⟩ : ∃ ta tc, (σ 52) = .agg #[.slice ta n tc, .int .i64 fac, .int .i64 s] ∧ Buf.Own w6.heap.size wx (.slice ta n tc) (ints (lst n T)) := hd 2 (some 52) (by kernel_rfl) (by rfl)
      obtain ⟨ya, yc, e59, o59⟩ : ∃ ya yc, (σ 59) = .slice ya kp yc ∧ Buf.Own w6.heap.size wx (.slice ya kp yc) (ints (lst kp (fun j => X (p + d - kp + j)))) := hd 9 (some 59) (by kernel_rfl) (by rfl)
      obtain e64 : (σ 64) = .int .i64 (num + d) := hd 14 (some 64) (by kernel_rfl) (by rfl)
      simp only [List.getElem_toArray, List.getElem_cons_zero, List.getElem_cons_succ, Act.put, List.setIfInBounds_toArray, List.set_cons_zero, List.set_cons_succ, e52, e59, e64] at hK ⊢
      go_simp
      exact hK.out _ _ hw (Below.refl _ _) (⟨ta2, tc2, ya, yc, rfl, o52, o59⟩)
    refine Inv.Steps.go (by decide) (by rfl) (fun σ wx hw hd K hK => ?_) ?_
    · simp only [List.getElem_toArray, List.getElem_cons_zero, List.getElem_cons_succ, Act.put, List.setIfInBounds_toArray, List.set_cons_zero, List.set_cons_succ] at hK ⊢
      have hsz := hw.size
      have hnew := heap_alloc_new wx (.cells #[.slice none 0 0, .int .i64 0, .int .i64 0, .slice none 0 0, .int .i64 0] 45)
      go_simp
      exact hK.out _ _ (hw.alloc hsz _) (new_block _) (⟨wx.heap.size, rfl, hsz, hnew⟩)
    exact Inv.Steps.nil
  · intro σ wx hw hd
    obtain ⟨ta, tc, ya5, yc5, e65, o65, q65⟩ : ∃ ta tc ya yc, (σ 65) = .agg #[.slice ta n tc, .int .i64 fac, .int .i64 s, .slice ya kp yc, .int .i64 (num + d)] ∧ Buf.Own w6.heap.size wx (.slice ta n tc) (ints (lst n T)) ∧ Buf.Own w6.heap.size wx (.slice ya kp yc) (ints (lst kp (fun j => X (p + d - kp + j)))) := hd 15 (some 65) (by rfl) (by rfl)
    obtain ⟨b, e11, b11, h11⟩ : ∃ b, (σ 11) = .pointer (some ⟨b, 0, none⟩) ∧ w6.heap.size ≤ b ∧ wx.heap[b]? = some (.cells #[.slice none 0 0, .int .i64 0, .int .i64 0, .slice none 0 0, .int .i64 0] 45 (0, 0)) := hd 16 (some 11) (by rfl) (by rfl)
    simp only [e65, e11]
    obtain ⟨z0, z1, z2, z3, z4⟩ := cells5 h11
    obtain ⟨g0, g1, g2, g3, g4⟩ := free5 h11
    refine Inv.one (i := 17) (by decide) (by kernel_rfl) (by rfl) (fun K hK => ?_)
    simp only [List.getElem_toArray, List.getElem_cons_zero, List.getElem_cons_succ, Act.put, List.setIfInBounds_toArray, List.set_cons_zero, List.set_cons_succ] at hK ⊢
    go_simp
    refine hK.out _ _ (Inv.done (by kernel_rfl) (NoPanic.normal ?_))
    clear hK K
    have Q := Lib.hid (set5 h11 (.slice ta n tc) (.int .i64 fac) (.int .i64 s) (.slice ya5 kp yc5) (.int .i64 (num + d)))
    have SA := Lib.hid ((sf_own o65).feed h11 (.slice ta n tc) (.int .i64 fac) (.int .i64 s) (.slice ya5 kp yc5) (.int .i64 (num + d)))
    have SB := Lib.hid ((sf_own q65).feed h11 (.slice ta n tc) (.int .i64 fac) (.int .i64 s) (.slice ya5 kp yc5) (.int .i64 (num + d)))
    have BB := Lib.hid (below_set5 hw b b11 (.slice ta n tc) (.int .i64 fac) (.int .i64 s) (.slice ya5 kp yc5) (.int .i64 (num + d)))
    clear z0 z1 z2 z3 z4 g0 g1 g2 g3 g4 hw hd e65 e11 o65 q65 h11
    generalize ((((wx.setCell ⟨b, 0, none⟩ (.slice ta n tc)).setCell ⟨b, 1, none⟩ (.int .i64 fac)).setCell ⟨b, 2, none⟩ (.int .i64 s)).setCell ⟨b, 3, none⟩ (.slice ya5 kp yc5)).setCell ⟨b, 4, none⟩ (.int .i64 (num + d)) = w9 at *
    have lt6 := (Array.getElem?_eq_some_iff.1 P1.out).1
    replace P1 := Lib.hid (hop P1.out BB.out)
    replace RO := Lib.hid (RO.out.below BB.out)
    replace W0 := Lib.hid (Buf.then_ W0.out BB.out)
    clear P0 CF hw0 BB RS
    obtain ⟨z0, z1, z2, z3, z4⟩ := cells5 P1.out
    obtain ⟨g0, g1, g2, g3, g4⟩ := free5 P1.out
    obtain ⟨y0, y1, y2, y3, y4⟩ := cells5 Q.out
    obtain ⟨oa, oc, oL, rfl⟩ : ∃ oa oc oL, res = .slice oa oL oc := by obtain ⟨a, c, e⟩ := own_len RO.out; exact ⟨a, c, _, e⟩
    go_wp2_with fail
    have TT := set5 P1.out (.slice ta n tc) (.int .i64 fac) (.int .i64 s) (.slice ya5 kp yc5) (.int .i64 (num + d))
    obtain ⟨e0, e1, e2, e3, e4⟩ := cells5 TT
    have OO := own_set5 RO.out (w.heap.size + 1) (by omega) (.slice ta n tc) (.int .i64 fac) (.int .i64 s) (.slice ya5 kp yc5) (.int .i64 (num + d))
    have WW := below_set5 W0.out (w.heap.size + 1) (by omega) (.slice ta n tc) (.int .i64 fac) (.int .i64 s) (.slice ya5 kp yc5) (.int .i64 (num + d))
    have S1 := (SA.out.set5 (w.heap.size + 1) lt6 (.slice ta n tc) (.int .i64 fac) (.int .i64 s) (.slice ya5 kp yc5) (.int .i64 (num + d))).mono (show w.heap.size ≤ w6.heap.size by omega)
    have S2 := (SB.out.set5 (w.heap.size + 1) lt6 (.slice ta n tc) (.int .i64 fac) (.int .i64 s) (.slice ya5 kp yc5) (.int .i64 (num + d))).mono (show w.heap.size ≤ w6.heap.size by omega)
    have E1 : num - (m : Int) = N0 + ((p - m : Nat) : Int) := by have := hnum.out; omega
    have E2 : q = p + d - (p - m) := by have := hq'.out; omega
    have OO2 := OO.mono (show w.heap.size ≤ w.heap.size + 2 by omega)
    rw [E1, E2] at OO2
    rw [hm.out] at OO2
    refine bodyPost_ret (v := .tuple #[.agg #[.slice ta n tc, .int .i64 fac, .int .i64 s, .slice ya5 kp yc5, .int .i64 (num + d)], .slice oa oL oc, .int .i64 0]) (by simp [results, Try.results17, go_sem, e0, e1, e2, e3, e4]) rfl ⟨⟨_, _, _, rfl, S1, by rw [← hk.out]; exact S2, OO2⟩, WW⟩
end Fil
end Go.Proofs.Ytmnafkfjmeoklaa
