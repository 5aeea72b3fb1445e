/- slices.Backward over a slice of limbs; nat.Int, at any number. -/
import Derived.Test.YtaaeegjinblpiaaDoorNtxQ
import Derived.RangeFuncBox
import Derived.RangeFuncLeaves
import Derived.Shelf.Abstract
import Derived.OwnWalkIn
import Derived.TacticsInMore
import Derived.LoopNIn
import Derived.LoopIn
set_option linter.unusedVariables false
namespace Go.Proofs.YtaaeegjinblpiaaDoor
open Go.RowKit Go.Shelf Dice
attribute [local go_sem] Oper.semAt_some
namespace Nt
def upto {α : Type} (f : Nat → α) (k : Nat) : List α := (List.range k).map f
theorem upto_succ {α : Type} (f : Nat → α) (k : Nat) : upto f (k + 1) = upto f k ++ [f k] := by simp [upto, List.range_succ]
theorem upto_length {α : Type} (f : Nat → α) (k : Nat) : (upto f k).length = k := by simp [upto]
/-- What the k-th round of a loop from the end on is handed. -/
def bk (zs : List Int) (len k : Nat) : Nat × Int := (len - 1 - k, zs[len - 1 - k]?.getD 0)
/-- All blocks below N but X are as they were. -/
structure KX (N X : Nat) (W W' : World) : Prop where
  size : W.heap.size ≤ W'.heap.size
  same : ∀ k, k < N → k ≠ X → W'.heap[k]? = W.heap[k]?
theorem KX.refl (N X : Nat) (W : World) : KX N X W W := ⟨Nat.le_refl _, fun _ _ _ => rfl⟩
theorem KX.trans {N X : Nat} {A B C : World} (h : KX N X A B) (k : KX N X B C) : KX N X A C := ⟨Nat.le_trans h.size k.size, fun j h1 h2 => (k.same j h1 h2).trans (h.same j h1 h2)⟩
theorem KX.cell {N X : Nat} {A B : World} (h : KX N X A B) {k o : Nat} {v : Value} (h1 : k < N) (h2 : k ≠ X) (hc : A.cell? ⟨k, o, none⟩ = some v) : B.cell? ⟨k, o, none⟩ = some v := (World.cell?_of_block (a := ⟨k, o, none⟩) (h.same k h1 h2)).trans hc
theorem KX.set (N X o : Nat) (W : World) (v : Value) : KX N X W (W.setCell ⟨X, o, none⟩ v) := ⟨by simp, fun k _ h2 => Below.heap_setCell W _ _ k h2⟩
set_option maxRecDepth 100000 in
set_option maxHeartbeats 2000000 in
theorem back1_in (F : Fence) (n : Nat) (h7 : F.fn 38) (hro : F.round = none) (hn : 1 ≤ n) (l Bs N X b len cap : Nat) (zs : List Int) (h9 : len ≤ 1000) (hcap : len ≤ cap) (a : Option Addr) (ha : 0 < len → a = some ⟨b, 0, none⟩) (hb : b < N) (hbX : b ≠ X) (J Jx : List (Nat × Int) → World → Prop)
    (hY : ∀ pre x W, J pre W → pre.length < len → YieldAt F (n - 1) Tryd.prog l #[.int .i64 (x.1 : Int), .int .i64 x.2] W fun e W' =>
      (e = .returned (.bool true) ∧ J (pre ++ [x]) W' ∧ KX N X W W') ∨ (e = .returned (.bool false) ∧ Jx (pre ++ [x]) W'))
    (W : World) (hBs : W.cell? ⟨Bs, 0, none⟩ = some (.slice a len cap)) (hBl : Bs < N) (hBX : Bs ≠ X) (hc : ∀ j, j < len → W.cell? ⟨b, j, none⟩ = some (.int .i64 (zs[j]?.getD 0))) (h0 : J [] W) :
    CallsIn F n Tryd.prog 38 #[.func (.yield l) #[] #[], .pointer (some ⟨Bs, 0, none⟩)] W fun e W' => (∃ v, e = .returned v) ∧
      ((∃ ys, ys = upto (bk zs len) len ∧ J ys W') ∨ (∃ pre, (∃ k, k ≤ len ∧ pre = upto (bk zs len) k) ∧ Jx pre W')) := by
  refine callsIn_of_wp Tryd.func38 rfl h7 ?_ hro
  simp only [Tryd.ntmps38, List.size_toArray, List.length_cons, List.length_nil, Nat.reduceAdd, Nat.reduceSub, Array.replicate_succ, Array.replicate_zero, List.push_toArray, List.append_toArray, List.nil_append, List.cons_append]
  gi_wp2
  gi_loopw [3] (fun i wr => ∃ k : Nat, k ≤ len ∧ i = .int .i64 ((len : Int) - 1 - (k : Int)) ∧ J (upto (bk zs len) k) wr ∧ KX N X W wr)
    (fun i _ => (intOf i + 1).toNat)
  case atStart => exact ⟨0, Nat.zero_le _, by simp, h0, KX.refl _ _ _⟩
  case round =>
    obtain ⟨k, hk, rfl, hJs, hnx⟩ := hrel
    have hBs' := hnx.cell hBl hBX hBs
    by_cases hlt : k < len
    · obtain rfl := ha (by omega)
      have hcx : wr.cell? ⟨b, len - 1 - k, none⟩ = some (.int .i64 (zs[len - 1 - k]?.getD 0)) := hnx.cell hb hbX (hc _ (by omega))
      obtain ⟨fn, tmps, assign, body, hy, hR⟩ := hY _ (bk zs len k) wr hJs (by rw [upto_length]; exact hlt)
      have hbk : bk zs len k = (len - 1 - k, zs[len - 1 - k]?.getD 0) := rfl
      have hup := upto_succ (bk zs len) k
      rw [hbk] at hy hR hup
      replace hup := Lib.hid hup
      clear hbk
      dsimp only at hy
      have e1 : (len : Int) - 1 - (k : Int) = ((len - 1 - k : Nat) : Int) := by omega
      generalize zs[len - 1 - k]?.getD 0 = z at *
      rw [e1]
      obtain ⟨q, hq⟩ : ∃ q, q = len - 1 - k := ⟨_, rfl⟩
      rw [← hq] at hcx hy hR hup e1 ⊢
      have hq1 : (q : Int) ≤ (len : Int) - 1 - (k : Int) := by omega
      have hq2 : (len : Int) - 1 - (k : Int) ≤ (q : Int) := by omega
      have hqq := Lib.hid hq
      clear hq
      replace e1 := Lib.hid e1
      have hqc : q < len := by omega
      gi_wp2
      refine hR.mono ?_
      rintro e W3 (⟨rfl, hJ3, hk3⟩ | ⟨rfl, hJx3⟩)
      · gi_wp2
        go_roundw
        case rel => exact ⟨k + 1, by omega, by (congr 1; push_cast; omega), by rw [hup.out]; exact hJ3, hnx.trans hk3⟩
        case measure => simp [intOf]
      · gi_wp2
        refine bodyPost_ret (results_none rfl _ _ _) rfl ?_
        exact ⟨⟨_, rfl⟩, .inr ⟨_, ⟨k + 1, by omega, hup.out.symm⟩, hJx3⟩⟩
    · obtain rfl : k = len := by omega
      gi_wp2
      go_end0
      exact ⟨⟨_, rfl⟩, .inl ⟨_, rfl, hJs⟩⟩
set_option maxHeartbeats 1000000 in
theorem back_in (F : Fence) (n : Nat) (h5 : F.fn 29) (hro : F.round = none) (a : Option Addr) (len cap : Nat) (w : World) :
    CallsIn F n Tryd.prog 29 #[.slice a len cap] w fun e w' => e = .returned (.func (.func 38) #[] #[.pointer (some ⟨w.heap.size, 0, none⟩)]) ∧ w' = w.alloc (.cells #[.slice a len cap] 25) := by
  refine callsIn_of_wp Tryd.func29 rfl h5 ?_ hro
  simp only [Tryd.ntmps29, List.size_toArray, List.length_cons, List.length_nil, Nat.reduceAdd, Nat.reduceSub, Array.replicate_succ, Array.replicate_zero, List.push_toArray, List.append_toArray, List.nil_append, List.cons_append]
  gi_wp2
  go_ret
  exact ⟨rfl, rfl⟩
theorem back_stops (F : Fence) (n : Nat) (h7 : F.fn 38) (hro : F.round = none) (hn : 1 ≤ n) (Bs N X b len cap : Nat) (zs : List Int) (h9 : len ≤ 1000) (hcap : len ≤ cap) (a : Option Addr) (ha : 0 < len → a = some ⟨b, 0, none⟩) (hb : b < N) (hbX : b ≠ X) (hBl : Bs < N) (hBX : Bs ≠ X) (w : World) (hN : N ≤ w.heap.size)
    (hBs : w.cell? ⟨Bs, 0, none⟩ = some (.slice a len cap)) (hc : ∀ j, j < len → w.cell? ⟨b, j, none⟩ = some (.int .i64 (zs[j]?.getD 0))) :
    SeqStopsK F n Tryd.prog 38 #[.pointer (some ⟨Bs, 0, none⟩)] (fun x : Nat × Int => #[Value.int .i64 (x.1 : Int), Value.int .i64 x.2]) (KX N X) (fun ys => ys = upto (bk zs len) len)
      (fun pre => ∃ k, k ≤ len ∧ pre = upto (bk zs len) k) len w := fun l J Jx W hW _ _ hY h0 => by
  have hBs' := (hW.cell (p := ⟨Bs, 0, none⟩) (by show Bs < _; omega)).trans hBs
  exact back1_in F n h7 hro hn l Bs N X b len cap zs h9 hcap a ha hb hbX J Jx hY W hBs' hBl hBX (fun j hj => (hW.cell (p := ⟨b, j, none⟩) (by show b < _; omega)).trans (hc j hj)) h0
/-- What the loop makes of the limbs that have come. -/
def accW : List (Nat × Int) → Int := List.foldl (fun s p => bits .or .i64 (wrap64 (s * 1073741824)) p.2) 0
theorem accW_snoc (pre : List (Nat × Int)) (x : Nat × Int) : accW (pre ++ [x]) = bits .or .i64 (wrap64 (accW pre * 1073741824)) x.2 := by simp [accW]
theorem lim62 : Limbs [0, 0, 4] := ⟨by decide, fun x hx => by simp at hx; omega⟩
theorem val62 : vl [0, 0, 4] = 4611686018427387904 := by decide
set_option maxRecDepth 100000 in
theorem accW_val (L : List Int) (n : Nat) (hv : Rg L) (hn : n = L.length) (h62 : vl L ≤ 4611686018427387904) : accW (upto (bk L n) n) = vl L := by
  have key : ∀ k, k ≤ n → ∃ T : Int, 0 ≤ T ∧ accW (upto (bk L n) k) = T ∧ vl L = T * 1073741824 ^ (n - k) + vl (L.take (n - k)) := by
    intro k
    induction k with
    | zero => intro _; exact ⟨0, by omega, rfl, by rw [Int.zero_mul, Int.zero_add, Nat.sub_zero, hn, List.take_length]⟩
    | succ k ih =>
      intro hk
      obtain ⟨T, t0, e1, e2⟩ := ih (by omega)
      obtain ⟨m, hm⟩ : ∃ m, n - k = m + 1 := ⟨n - k - 1, by omega⟩
      have hm' : n - (k + 1) = m := by omega
      have hm2 : n - 1 - k = m := by omega
      rw [hm] at e2
      have eb : (1073741824 : Int) ^ (m + 1) = 1073741824 * 1073741824 ^ m := by rw [Int.pow_succ, Int.mul_comm]
      have ev := vl_take L m
      obtain ⟨d0, d9⟩ := rg_getD hv m
      have p1 : (1 : Int) ≤ 1073741824 ^ m := Int.pow_pos (by decide)
      have v0 := vl_nn (L.take (m + 1)) fun x hx => hv x (List.mem_of_mem_take hx)
      have et : T * 1073741824 ^ (m + 1) = (T * 1073741824) * 1073741824 ^ m := by rw [eb]; grind
      have t9 : T * 1073741824 ≤ 4611686018427387904 := by
        have : T * 1073741824 * 1 ≤ T * 1073741824 * 1073741824 ^ m := Int.mul_le_mul_of_nonneg_left p1 (by omega)
        omega
      refine ⟨T * 1073741824 + L.getD m 0, by omega, ?_, ?_⟩
      · rw [upto_succ, accW_snoc, e1]
        show bits .or .i64 (wrap64 (T * 1073741824)) (L[n - 1 - k]?.getD 0) = _
        rw [hm2, IntWalk.wrap64_in _ ⟨by omega, by omega⟩, ← List.getD_eq_getElem?_getD, or_limb t0 t9 d0 d9]
      · rw [hm', e2, ev, et, Int.add_mul]; omega
  obtain ⟨T, _, e1, e2⟩ := key n (Nat.le_refl _)
  rw [Nat.sub_self] at e2
  rw [e1, e2]
  show T = T * 1073741824 ^ 0 + 0
  simp
set_option maxRecDepth 100000 in
set_option maxHeartbeats 4000000 in
theorem int_in {w : World} {a : Option Addr} {n c : Nat} {L : List Int} (h : Nr w a n c L) (hL : Limbs L) (h64 : n ≤ 64) (h62 : vl L ≤ 4611686018427387904) :
    CallsIn Fence.wide 6 Tryd.prog 9 #[.slice a n c] w fun e W' => e = .returned (.tuple #[.int .i64 (accW (upto (bk L n) n)), .int .i64 0]) ∧ Below w.heap.size w W' := by
  have hro : Fence.wide.round = none := rfl
  have V := Lib.hid (valid_any h hL h64)
  have C := Lib.hid fun w' (hb : Below w.heap.size w w') g' (hs' : Nr w' (some ⟨g', 0, none⟩) 3 3 [0, 0, 4]) => compare_any (h.below hb) hs' hL lim62
  have S4 := Lib.hid (nr_new w [0, 0, 4] (.cells #[.int .i64 0, .int .i64 0, .int .i64 4] 3) 3 3 rfl rfl (by omega))
  have hn64 : n ≤ 64 := h64
  have hnc : n ≤ c := h.nc
  obtain ⟨g, hg0, HG⟩ : ∃ g, g ≤ w.heap.size ∧ (0 < n → a = some ⟨g, 0, none⟩ ∧ g < w.heap.size ∧ ∀ j, j < n → w.cell? ⟨g, j, none⟩ = some (.int .i64 (L[j]?.getD 0))) := by
    by_cases h0 : 0 < n
    · obtain ⟨g, e, hg, hc⟩ := h.at_ h0
      have hl := h.len
      exact ⟨g, by omega, fun _ => ⟨e, hg, fun j hj => hc j _ (by rw [List.getElem?_eq_getElem (by omega)]; rfl)⟩⟩
    · exact ⟨0, by omega, fun h => absurd h h0⟩
  replace HG := Lib.hid HG
  have h62' := Lib.hid h62
  clear h hL h62 h64
  refine callsIn_of_wp_marks Tryd.func9 rfl trivial ?_ hro
  simp only [Tryd.ntmps9, List.size_toArray, List.length_cons, List.length_nil, Nat.reduceAdd, Nat.reduceSub, Array.replicate_succ, Array.replicate_zero, List.push_toArray, List.append_toArray, List.nil_append, List.cons_append]
  gi_wp2
  refine ⟨trivial, (callsIn_wide.2 V.out).mono ?_⟩
  rintro e w1 ⟨rfl, rfl⟩
  gi_wp2
  refine ⟨trivial, (callsIn_wide.2 (C.out _ ((Below.refl _ _).alloc (Nat.le_refl _) _) _ S4.out)).mono ?_⟩
  rintro e w2 ⟨ht, hd⟩
  obtain ⟨cc, hc0, rfl⟩ : ∃ cc : Int, cc ≤ 0 ∧ e = .returned (.int .i64 cc) := by
    rcases ht with ⟨rfl, _⟩ | ⟨rfl, h⟩ | ⟨rfl, _⟩
    · exact ⟨-1, by decide, rfl⟩
    · have := h62'.out; rw [val62] at h; omega
    · exact ⟨0, by decide, rfl⟩
  have W2 : Hid (Below w1.heap.size w1 w2) := Lib.hid (by obtain ⟨m, rfl⟩ := hd; exact Buf.below_drewN ((Below.refl _ _).alloc (Nat.le_refl _) _) m)
  have Z2 : w1.heap.size < w2.heap.size := by obtain ⟨m, rfl⟩ := hd; show _ < (w1.alloc _).heap.size; simp
  have hnot : ¬ (0 < cc) := by omega
  clear hd ht V C S4 h62'
  gi_wp2
  refine ⟨trivial, (back_in Fence.wide _ trivial rfl _ _ _ _).mono ?_⟩
  rintro e w3 ⟨rfl, rfl⟩
  have bX := Boxed.new w2 3 (.int .i64 0)
  have bN := Boxed.new (w2.alloc (.cells #[.int .i64 0] 3)) 25 (.slice a n c)
  rw [World.size_alloc] at bN
  have hB0 : Below w1.heap.size w1 ((w2.alloc (.cells #[.int .i64 0] 3)).alloc (.cells #[.slice a n c] 25)) := (W2.out.alloc (by omega) _).alloc (by simp; omega) _
  have CL' : Hid (∀ j, j < n → ((w2.alloc (.cells #[.int .i64 0] 3)).alloc (.cells #[.slice a n c] 25)).cell? ⟨g, j, none⟩ = some (.int .i64 (L[j]?.getD 0))) := Lib.hid fun j hj => (hB0.cell (p := ⟨g, j, none⟩) (HG.out (by omega)).2.1).trans ((HG.out (by omega)).2.2 j hj)
  gi_wp2
  refine wpIn_rangeFunc_ownG hro (by decide) (gf := 38) (lb := #[.pointer (some ⟨w2.heap.size + 1, 0, none⟩)]) rfl trivial (enters_of Tryd.func38 (by kernel_rfl) rfl)
    (back_stops Fence.wide 5 trivial rfl (by omega) (w2.heap.size + 1) (w2.heap.size + 1 + 1) w2.heap.size g n c L (by omega) hnc a (fun h0 => (HG.out h0).1) (by omega) (by omega) (by omega) (by omega) _ (by simp) bN.cell CL'.out) (fun h k => KX.trans h k) (fun W l o o' hl hk h1 h2 => ⟨(belowK_b (n₀ := w2.heap.size + 1 + 1) (by simp) W l o o' hl hk h1 h2).size, fun k h3 _ => (belowK_b (n₀ := w2.heap.size + 1 + 1) (by simp) W l o o' hl hk h1 h2).block k h3⟩) (Below.refl _ _) (fun _ => rfl)
    (fun pre W => (W.cell? ⟨w2.heap.size, 0, none⟩ = some (.int .i64 (accW pre)) ∧ W.frozen? ⟨w2.heap.size, 0, none⟩ = false) ∧ Below w1.heap.size w1 W)
    (fun _ _ _ => False)
    (OwnFrom.and (Own.from (fun s A B row hs hg hr => ⟨cell_kept hs.1 hg hr, (frozen_kept hs.1 hg hr).trans hs.2⟩) _) (ownFrom_below (by omega) (by simp; omega)))
    (fun _ _ _ _ _ hs _ _ => hs)
    ⟨⟨(bX.alloc _).cell, (bX.alloc _).frozen⟩, hB0⟩
    (fun x => { tmps := #[.slice a n c, undef, .int .i64 0, .int .i64 0, .pointer (some ⟨w2.heap.size, 0, none⟩), undef, .int .i64 x.2, .slice a n c, .bool true, .bool false, .slice a n c, .slice (some ⟨w1.heap.size, 0, none⟩) 3 3, .int .i64 cc, .bool (decide (0 < cc)), .slice a n c, .func (.func 38) #[] #[.pointer (some ⟨w2.heap.size + 1, 0, none⟩)], .int .i64 (x.1 : Int), .int .i64 x.2, undef, undef, undef, undef, undef], defers := [] }) ?assign ?body ?done ?stop
  case assign =>
    intro l x W K hK
    gi_wp2
    exact hK
  case body =>
    rintro l pre x W ⟨⟨hc, hf⟩, hB⟩ _
    gi_wp2
    exact ⟨(KeepsOthers.setCell _ _ _).from _, KX.set _ _ _ _ _, ⟨by rw [accW_snoc]; exact World.cell?_setCell_same' _ _ _ (by rw [hc]; rfl), by rw [World.frozen?_setCell]; exact hf⟩, hB.setCell (p := ⟨w2.heap.size, 0, none⟩) (by show _ ≤ w2.heap.size; omega) _⟩
  case done =>
    rintro D ys W hD rfl ⟨⟨hc, hf⟩, hB⟩ hK
    gi_wp2
    refine ⟨by simp, .inl ⟨_, _, rfl, run_takeDeferred hK, ?_⟩⟩
    refine ⟨.tuple #[.int .i64 (accW (upto (bk L n) n)), .int .i64 0], ?_, rfl, hB.trans (belowK_b (w := w1) (Nat.le_refl _) W D _ _ (by simp at hD; omega) hK rfl rfl)⟩
    simp [results, Tryd.results9, go_sem]
  case stop =>
    rintro D c' pre W _ _ h _
    exact h.elim
theorem int_any {w : World} {a : Option Addr} {n c : Nat} {L : List Int} (h : Nr w a n c L) (hL : Limbs L) (h64 : n ≤ 64) (h62 : vl L ≤ 4611686018427387904) :
    Calls Tryd.prog 9 #[.slice a n c] w fun e W' => e = .returned (.tuple #[.int .i64 (vl L), .int .i64 0]) ∧ Below w.heap.size w W' := by
  have h' := int_in h hL h64 h62
  rw [accW_val L n hL.rg h.len h62] at h'
  exact callsIn_wide.1 h'
set_option maxHeartbeats 2000000 in
theorem int_big {w : World} {a : Option Addr} {n c : Nat} {L : List Int} (h : Nr w a n c L) (hL : Limbs L) (h64 : n ≤ 64) (h62 : 4611686018427387904 < vl L) :
    Calls Tryd.prog 9 #[.slice a n c] w fun e W' => e = .returned (.tuple #[.int .i64 0, .int .i64 2]) ∧ Below w.heap.size w W' := by
  have V := Lib.hid (valid_any h hL h64)
  have b4 := Lib.hid (new_block (w := w) (.cells #[.int .i64 0, .int .i64 0, .int .i64 4] 3))
  have C := Lib.hid (compare_any (h.below b4.out) (nr_new w [0, 0, 4] (.cells #[.int .i64 0, .int .i64 0, .int .i64 4] 3) 3 3 rfl rfl (by omega)) hL lim62)
  clear h
  go_enter Tryd.func9, Tryd.ntmps9
  go_wp2_with fail
  with_reducible refine V.out.mono ?_
  rintro e w1 ⟨rfl, hw⟩
  replace hw := hw.symm
  subst hw
  clear V
  go_wp2_with fail
  with_reducible refine C.out.mono ?_
  rintro e w2 ⟨ht, hm⟩
  obtain rfl : e = .returned (.int .i64 1) := by
    rcases ht with ⟨_, h⟩ | ⟨h, _⟩ | ⟨_, h⟩
    · rw [val62] at h; omega
    · exact h
    · rw [val62] at h; omega
  have b5 := bel_drew hm
  clear ht hm C
  go_wp2_with fail
  go_ret2
  exact ⟨rfl, Buf.then_ b4.out b5⟩
theorem int_num {w : World} {u : Value} {x : Int} {j : Nat} (h : Num w u x j) (hj : j ≤ 64) :
    Calls Tryd.prog 9 #[u] w fun e W' => (x ≤ 4611686018427387904 ∧ e = .returned (.tuple #[.int .i64 x, .int .i64 0]) ∨ 4611686018427387904 < x ∧ e = .returned (.tuple #[.int .i64 0, .int .i64 2])) ∧ Below w.heap.size w W' := by
  obtain ⟨a, n, c, L, rfl, hn, hl, rfl, hk1⟩ := h
  by_cases hx : vl L ≤ 4611686018427387904
  · exact (int_any hn hl (by omega) hx).mono fun e W' ⟨h, b⟩ => ⟨.inl ⟨hx, h⟩, b⟩
  · exact (int_big hn hl (by omega) (by omega)).mono fun e W' ⟨h, b⟩ => ⟨.inr ⟨by omega, h⟩, b⟩
theorem compare_num {w : World} {u v : Value} {x y : Int} {j k : Nat} (h : Num w u x j) (h' : Num w v y k) (hj : j ≤ 64) (hk : k ≤ 64) :
    Calls Tryd.prog 11 #[u, v] w fun e w' => Told x y e ∧ Below w.heap.size w w' := by
  obtain ⟨a, n, c, L, rfl, hn, hl, rfl, hk1⟩ := h
  obtain ⟨a', n', c', M, rfl, hn', hl', rfl, hk2⟩ := h'
  exact (Compare_any hn hn' hl hl' (by omega) (by omega)).mono fun e w1 ⟨ht, hm⟩ => ⟨ht, bel_drew hm⟩
end Nt
end Go.Proofs.YtaaeegjinblpiaaDoor
