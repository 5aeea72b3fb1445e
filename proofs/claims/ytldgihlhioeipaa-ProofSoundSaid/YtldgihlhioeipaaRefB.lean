/- RefB: texts joined. -/
import Derived.Test.YtldgihlhioeipaaGeoAI
import Derived.OwnWalk
import Derived.Laws.AppendOwn
import Derived.Test.YtldgihlhioeipaaGeoR
import Derived.Test.YtldgihlhioeipaaTravAC
import Derived.Test.YtldgihlhioeipaaRTU
import Derived.Test.YtldgihlhioeipaaQuiet
import Derived.BigRegion
import Derived.Deep.DeepCutAuto
import Derived.Test.YtldgihlhioeipaaBoundD
import Derived.Test.YtldgihlhioeipaaRefA
import Derived.Test.YtldgihlhioeipaaMisB
import Derived.Deep.CutBlock
import Derived.Test.YtldgihlhioeipaaInvAB
import Derived.Test.YtldgihlhioeipaaMisRN
/- Slices of the call's own whose elements have three cells. -/
namespace Go.Proofs.Ytldgihlhioeipaa
open Go.RowKit
namespace Row3
/-- The cells of points. -/
def cells (l : List (Int × Int × Int)) : List Value := l.flatMap fun p => [.int .i64 p.1, .int .i64 p.2.1, .int .i64 p.2.2]
theorem cells_append (l m : List (Int × Int × Int)) : cells (l ++ m) = cells l ++ cells m := by simp [cells, List.flatMap_append]
theorem cells_one (x y z : Int) : cells [(x, y, z)] = [.int .i64 x, .int .i64 y, .int .i64 z] := by simp [cells]
theorem cells_snoc (l : List (Int × Int × Int)) (x y z : Int) : cells (l ++ [(x, y, z)]) = cells l ++ [.int .i64 x, .int .i64 y, .int .i64 z] := by rw [cells_append, cells_one]
theorem cells_get (l : List (Int × Int × Int)) (k : Nat) (p : Int × Int × Int) (h : l[k]? = some p) :
    (cells l)[k * 3]? = some (.int .i64 p.1) ∧ (cells l)[k * 3 + 1]? = some (.int .i64 p.2.1) ∧ (cells l)[k * 3 + 2]? = some (.int .i64 p.2.2) := by
  induction l generalizing k with
  | nil => simp at h
  | cons q l ih =>
    have e : cells (q :: l) = .int .i64 q.1 :: .int .i64 q.2.1 :: .int .i64 q.2.2 :: cells l := by simp [cells]
    rw [e]
    cases k with
    | zero => simp at h; subst h; simp
    | succ k =>
      have := ih k (by simpa using h)
      have e1 : (k + 1) * 3 = k * 3 + 1 + 1 + 1 := by omega
      rw [e1]
      simpa using this
section
variable {P : Program}
theorem append3 {ops : Array Oper} {rest : List Oper} {o : Oper} {a : Act} {Q : Exit → Act → World → Prop} (hgd : o.guard = none) (s x : Operand) (t : TypeId)
    (ho : o.op = .call { callee := .builtin .append, args := #[s, x], argTypes := #[t, t] })
    (B : Nat) (e e1 : TypeId) (i : TypeInfo) (z : Value) (bytes : Nat) (ht : P.underlying t = some (.slice e)) (hi : P.info? e = some i) (hz : i.zero = some z) (hsize : i.size = 3) (hby : i.bytes = bytes) (hzs : z.cells.size = 3)
    {w : World} {v : Value} {n : Nat} {xs : List Value} (hv : a.eval s = v) (h : w.ownsRow B e 3 v n xs) (hB : B ≤ w.heap.size)
    (u0 u1 u2 : Value) (h0 : u0.oneCell' = true) (h1 : u1.oneCell' = true) (h2 : u2.oneCell' = true) (hx : a.eval x = .slice (some ⟨w.heap.size, 0, none⟩) 1 1) (h63 : n + 1 ≤ maxLen) (hbytes : (n + 1) * bytes ≤ 140737488355328)
    (hK : ∀ v' w', w'.ownsRow B e 3 v' (n + 1) (xs ++ [u0, u1, u2]) → (w.alloc (.cells #[u0, u1, u2] e1)).grownBy w' v.ownBlock → wpList P ops Q rest (a.put o.dst v') w') : wpList P ops Q (o :: rest) a (w.alloc (.cells #[u0, u1, u2] e1)) := by
  have hc : ∀ j, (w.alloc (.cells #[u0, u1, u2] e1)).cell? ⟨w.heap.size, j, none⟩ = #[u0, u1, u2][j]? := fun j => World.cell?_alloc_mark w #[u0, u1, u2] e1 (0, 0) j
  refine wpList_append_own _ hgd s x t ho B e i z 3 bytes ht hi hz hsize hby hzs (by decide) v n xs hv (h.alloc _) ⟨w.heap.size, 0, none⟩ 1 1 [u0, u1, u2] hx rfl (fun j u hu => ?_) (fun u hu => ?_) h63 hbytes (by simp; omega) (fun v' w' h2 h3 _ => hK v' w' h2 h3)
  · rw [Addr.add_lit, Nat.zero_add, hc]
    rw [← hu]
    simp
  · simp at hu
    rcases hu with rfl | rfl | rfl <;> assumption
end
/-- What an append leaves of the call's box and of what lay below. -/
theorem keep3 {w wr w' : World} {v : Value} {e : TypeId} {n : Nat} {xs : List Value} {o o' : Obj} (own : wr.ownsRow (w.heap.size + 1) e 3 v n xs) (p : wr.heap[w.heap.size]? = some o) (hW : Below w.heap.size w wr) (hg : (wr.alloc o').grownBy w' v.ownBlock) :
    w'.heap[w.heap.size]? = some o ∧ Below w.heap.size w w' := by
  refine ⟨(hg.block w.heap.size (by have := (Array.getElem?_eq_some_iff.1 p).1; simp; omega) (fun he => by have := (own.lt _ he.symm).1; omega)).trans (Geo.blk_alloc p o'), ?_⟩
  refine Below.grown (Geo.bl_alloc hW) hg (by have := (Array.getElem?_eq_some_iff.1 p).1; simp; omega) fun k hk => ?_
  have := (own.lt _ hk).1
  omega
end Row3
end Go.Proofs.Ytldgihlhioeipaa

/- The contract of All. -/
namespace Go.Proofs.Ytldgihlhioeipaa
open Go.RowKit
namespace Geo
theorem info3 : (Try.prog.info? 24).map (fun i => (i.zero, i.size, i.bytes)) = some (some (.agg #[.int .i64 0, .int .i64 0, .int .i64 0]), 3, 24) := by kernel_rfl
theorem len_bd {a b c x y : Int} {Y Z k m q : Nat} (hk : k ≤ 100) (hY : Y ≤ 100) (hZ : Z ≤ 100) (hm : m ≤ 100) (hq : q ≤ 100) : (Fs a b c Y Z k ++ Gs x b c Z m ++ Hs x y c q).length ≤ 1020100 := by
  rw [List.length_append, List.length_append, Fs_length, Gs_length, Hs_length]
  have h1 : Y * Z ≤ 100 * 100 := Nat.mul_le_mul hY hZ
  have h2 : k * (Y * Z) ≤ 100 * (100 * 100) := Nat.mul_le_mul hk h1
  have h3 : m * Z ≤ 100 * 100 := Nat.mul_le_mul hm hZ
  omega
/-- What All returns. -/
def AllSaid (W : World) (l : List (Int × Int × Int)) (r : Ending) (w' : World) : Prop := ∃ v, r = .returned v ∧ w'.ownsRow (W.heap.size + 1) 24 3 v l.length (Row3.cells l)
theorem int_eq {x y : Int} (h : x = y) : Value.int .i64 x = Value.int .i64 y := by rw [h]
set_option maxHeartbeats 4000000 in
set_option maxRecDepth 100000 in
theorem all_any (a b c d e f : Int) (X Y Z : Nat) (hX : (X : Int) = d - a + 1) (hY : (Y : Int) = e - b + 1) (hZ : (Z : Int) = f - c + 1) (h : BV a b c d e f) (X9 : X ≤ 100) (Y9 : Y ≤ 100) (Z9 : Z ≤ 100) (w : World) :
    Calls Try.prog 12 #[.agg #[.int .i64 a, .int .i64 b, .int .i64 c, .int .i64 d, .int .i64 e, .int .i64 f]] w fun r w' => AllSaid w (Fs a b c Y Z X) r w' ∧ Below w.heap.size w w' := by
  obtain ⟨i0, hi, hz0, hz1, hz2⟩ := info_parts info3
  obtain ⟨⟨ax0, ax1, ay0, ay1, az0, az1⟩, ⟨dx0, dx1, dy0, dy1, dz0, dz1⟩, hx, hy, hz⟩ := h
  have HI := Lib.hid hi
  have HZ0 := Lib.hid hz0
  have HZ1 := Lib.hid hz1
  have HZ2 := Lib.hid hz2
  have X0 : (X : Int) ≤ d - a + 1 := by omega
  have X1 : d - a + 1 ≤ (X : Int) := by omega
  have Y0 : (Y : Int) ≤ e - b + 1 := by omega
  have Y1 : e - b + 1 ≤ (Y : Int) := by omega
  have Z0 : (Z : Int) ≤ f - c + 1 := by omega
  have Z1 : f - c + 1 ≤ (Z : Int) := by omega
  clear hi hz0 hz1 hz2 hX hY hZ
  have p1 := Lib.hid (blk_new w (.cells #[.int .i64 a, .int .i64 b, .int .i64 c, .int .i64 d, .int .i64 e, .int .i64 f] 26))
  have hW : Hid (Below w.heap.size w (w.alloc (.cells #[.int .i64 a, .int .i64 b, .int .i64 c, .int .i64 d, .int .i64 e, .int .i64 f] 26))) := Lib.hid (new_block _)
  have own0 : Hid ((w.alloc (.cells #[.int .i64 a, .int .i64 b, .int .i64 c, .int .i64 d, .int .i64 e, .int .i64 f] 26)).ownsRow (w.heap.size + 1) 24 3 (.slice none 0 0) (Fs a b c Y Z 0).length (Row3.cells (Fs a b c Y Z 0))) := Lib.hid (World.ownsRow_nil _ _ _ _)
  go_enter Try.func12, Try.ntmps12
  go_wp2
  go_loopw [3, 4] (fun v i wr => ∃ k : Nat, k ≤ X ∧ i = .int .i64 (a + k) ∧ Hid (wr.ownsRow (w.heap.size + 1) 24 3 v (Fs a b c Y Z k).length (Row3.cells (Fs a b c Y Z k))) ∧ Hid (wr.heap[w.heap.size]? = some (.cells #[.int .i64 a, .int .i64 b, .int .i64 c, .int .i64 d, .int .i64 e, .int .i64 f] 26 (0, 0))) ∧ Hid (Below w.heap.size w wr)) (fun _ i _ => (a + X - intOf i).toNat)
  case atStart => exact ⟨0, by omega, int_eq (by omega), own0, p1, hW⟩
  case round =>
    clear own0 p1 hW
    obtain ⟨k, hk, rfl, own1, p1, hW⟩ := hrel
    obtain ⟨c1, c2, c3, c4, c5, c6⟩ := cells6 p1.out
    by_cases hlt : k < X
    · have t1 : a + (k : Int) ≤ d := by omega
      go_wp2
      obtain ⟨wo, rfl⟩ : ∃ wo, wo = wr := ⟨_, rfl⟩
      go_loopw [3, 5] (fun v j wr => ∃ m : Nat, m ≤ Y ∧ j = .int .i64 (b + m) ∧ Hid (wr.ownsRow (w.heap.size + 1) 24 3 v (Fs a b c Y Z k ++ Gs (a + k) b c Z m).length (Row3.cells (Fs a b c Y Z k ++ Gs (a + k) b c Z m))) ∧ Hid (wr.heap[w.heap.size]? = some (.cells #[.int .i64 a, .int .i64 b, .int .i64 c, .int .i64 d, .int .i64 e, .int .i64 f] 26 (0, 0))) ∧ Hid (Below w.heap.size w wr)) (fun _ j _ => (b + Y - intOf j).toNat)
      case atStart => exact ⟨0, by omega, int_eq (by omega), by simpa [Gs] using own1, p1, hW⟩
      case round =>
        clear own1 p1 hW c1 c2 c3 c4 c5 c6
        obtain ⟨m, hm, rfl, own2, p1, hW⟩ := hrel
        obtain ⟨c1, c2, c3, c4, c5, c6⟩ := cells6 p1.out
        by_cases hlt2 : m < Y
        · have t2 : b + (m : Int) ≤ e := by omega
          go_wp2
          obtain ⟨wp, rfl⟩ : ∃ wp, wp = wr := ⟨_, rfl⟩
          go_loopw [3, 6] (fun v j wr => ∃ q : Nat, q ≤ Z ∧ j = .int .i64 (c + q) ∧ Hid (wr.ownsRow (w.heap.size + 1) 24 3 v (Fs a b c Y Z k ++ Gs (a + k) b c Z m ++ Hs (a + k) (b + m) c q).length (Row3.cells (Fs a b c Y Z k ++ Gs (a + k) b c Z m ++ Hs (a + k) (b + m) c q))) ∧ Hid (wr.heap[w.heap.size]? = some (.cells #[.int .i64 a, .int .i64 b, .int .i64 c, .int .i64 d, .int .i64 e, .int .i64 f] 26 (0, 0))) ∧ Hid (Below w.heap.size w wr)) (fun _ j _ => (c + Z - intOf j).toNat)
          case atStart => exact ⟨0, by omega, int_eq (by omega), by simpa [Hs] using own2, p1, hW⟩
          case round =>
            clear own2 p1 hW c1 c2 c3 c4 c5 c6
            obtain ⟨q, hq, rfl, own3, p1, hW⟩ := hrel
            obtain ⟨c1, c2, c3, c4, c5, c6⟩ := cells6 p1.out
            by_cases hlt3 : q < Z
            · have t3 : c + (q : Int) ≤ f := by omega
              have hlen := len_bd (a := a) (b := b) (c := c) (x := a + k) (y := b + m) (k := k) (m := m) (q := q) (by omega) Y9 Z9 (by omega) (by omega)
              have hsz : w.heap.size + 1 ≤ wr.heap.size := (Array.getElem?_eq_some_iff.1 p1.out).1
              go_wp2_with (at_builtin; refine Row3.append3 rfl _ _ 48 rfl (w.heap.size + 1) 24 _ i0 _ 24 Try.underlying48 HI.out HZ0.out HZ1.out HZ2.out rfl rfl own3.out hsz _ _ _ rfl rfl rfl rfl (by unfold maxLen; omega) (by omega) ?_; intro v' w' hown' hg)
              obtain ⟨r1, r2⟩ := Row3.keep3 own3.out p1.out hW.out hg
              go_roundw
              case rel => exact ⟨q + 1, by omega, int_eq (by omega), Lib.hid (by rw [Hs_succ, ← List.append_assoc, Row3.cells_snoc, List.length_append]; exact hown'), Lib.hid r1, Lib.hid r2⟩
              case measure => simp [intOf]; omega
            · obtain rfl : q = Z := by omega
              have t3 : f < c + (q : Int) := by omega
              go_wp2
              go_roundw
              case rel => exact ⟨m + 1, by omega, int_eq (by omega), Lib.hid (by rw [Gs_succ, ← List.append_assoc]; exact own3.out), p1, hW⟩
              case measure => simp [intOf]; omega
        · obtain rfl : m = Y := by omega
          have t2 : e < b + (m : Int) := by omega
          go_wp2
          go_roundw
          case rel => exact ⟨k + 1, by omega, int_eq (by omega), Lib.hid (by rw [Fs_succ]; exact own2.out), p1, hW⟩
          case measure => simp [intOf]; omega
    · obtain rfl : k = X := by omega
      have t1 : d < a + (k : Int) := by omega
      go_wp2
      go_ret
      exact ⟨⟨_, rfl, own1.out⟩, hW.out⟩
end Geo
end Go.Proofs.Ytldgihlhioeipaa

/- The reference of layer 25 at valid tables. -/
set_option linter.unusedVariables false
set_option linter.unusedSimpArgs false
namespace Go.Proofs.Ytldgihlhioeipaa
open Go.RowKit Qt
namespace Trav
theorem hop {w w' : World} {b : Nat} {o : Obj} (hb : Below w.heap.size w w') (h : w.heap[b]? = some o) : w'.heap[b]? = some o := by
  rw [hb.block b (Array.getElem?_eq_some_iff.1 h).1]; exact h
set_option maxHeartbeats 8000000 in
set_option maxRecDepth 100000 in
theorem rvalidate_yes (s : Int) (b1 b2 n c1 c2 : Nat) (lo hi : List Int) (w : World) (h : TV w s b1 b2 n lo hi) :
    Calls Try.prog 59 #[.agg #[.int .i64 s, .slice (some ⟨b1, 0, none⟩) n c1, .slice (some ⟨b2, 0, none⟩) n c2]] w fun r w' => r = .returned (.int .i64 0) ∧ Below w.heap.size w w' := by
  have hs := h.s1
  have hs9 := h.s9
  have hn3 : (2 : Int) ≤ n := by have := h.n3; omega
  have hn9 : (n : Int) ≤ 256 := by have := h.n9; omega
  obtain ⟨W0, hW0⟩ : ∃ wz, wz = w.alloc (.cells #[.int .i64 s, .slice (some ⟨b1, 0, none⟩) n c1, .slice (some ⟨b2, 0, none⟩) n c2] 33) := ⟨_, rfl⟩
  have p1 := Lib.hid (show W0.heap[w.heap.size]? = some (.cells #[.int .i64 s, .slice (some ⟨b1, 0, none⟩) n c1, .slice (some ⟨b2, 0, none⟩) n c2] 33 (0, 0)) by rw [hW0]; exact heap_alloc_new w _)
  have hT := Lib.hid (show TV W0 s b1 b2 n lo hi by rw [hW0]; exact h.below (new_block _))
  have hW := Lib.hid (show Below w.heap.size w W0 by rw [hW0]; exact new_block _)
  have x1 := cell_of_row W0 w.heap.size 0 _ _ _ p1.out
  have x2 := cell_of_row W0 w.heap.size 1 _ _ _ p1.out
  have x3 := cell_of_row W0 w.heap.size 2 _ _ _ p1.out
  simp at x1 x2 x3
  have dnn : ((n : Int) != (n : Int)) = false := by simp
  clear h
  go_enter Try.func59, Try.ntmps59
  go_upto_region 1 with fail
  rw [← hW0]
  clear hW0
  go_wp2_with fail
  go_loopw [3] (fun i wr => ∃ k : Nat, k ≤ n ∧ i = .int .i64 k ∧ Hid (Below W0.heap.size W0 wr)) (fun i _ => ((n : Int) - intOf i).toNat)
  case atStart => exact ⟨0, by omega, rfl, Lib.hid (Below.refl _ _)⟩
  case round =>
    clear x1 x2 x3
    obtain ⟨k, hk, rfl, hb⟩ := hrel
    have x1 := cell_of_row wr w.heap.size 0 _ _ _ (hop hb.out p1.out)
    have x2 := cell_of_row wr w.heap.size 1 _ _ _ (hop hb.out p1.out)
    have x3 := cell_of_row wr w.heap.size 2 _ _ _ (hop hb.out p1.out)
    simp at x1 x2 x3
    by_cases hlt : k < n
    · have hlt' : (k : Int) < n := by omega
      have hTr := hT.out.below hb.out
      have y1 := hTr.at1 k hlt
      have y2 := hTr.at2 k hlt
      obtain ⟨v0, v1, v2⟩ := hTr.val k hlt
      by_cases h0 : k = 0
      · have e0 : (k : Int) = 0 := by omega
        obtain rfl : k = 0 := h0
        have z1 : decide (((0 : Nat) : Int) > 0) = false := by decide
        have z2 : decide ((0 : Int) > 0) = false := by decide
        clear hTr
        generalize lo.getD 0 0 = lk at *
        generalize hi.getD 0 0 = hk' at *
        have d1 : decide (lk < 0) = false := decide_eq_false (by omega)
        have d2 : decide (lk > hk') = false := decide_eq_false (by omega)
        have d3 : decide (hk' > 1099511627776) = false := decide_eq_false (by omega)
        clear v0 v1 v2
        go_wp2_with fail
        go_quiet (fail)
        go_wp2_with fail
        go_quiet (fail)
        go_wp2_with fail
        go_roundw
        case rel => exact ⟨1, by omega, by go_num, Lib.hid (Buf.below_drewN hb.out _)⟩
        case measure => simp [intOf]; omega
      · obtain ⟨j, hkk⟩ : ∃ j, k = j + 1 := ⟨k - 1, by omega⟩
        have q1 := hTr.at1 j (by omega)
        have q2 := hTr.at2 j (by omega)
        obtain ⟨m0, m1⟩ := hTr.mono j k (by omega) hlt
        have z0 : ((k : Int) - 1) = (j : Int) := by omega
        have z1 : decide ((k : Int) > 0) = true := decide_eq_true (by omega)
        have z2 : decide ((0 : Int) < k) = true := decide_eq_true (by omega)
        have z3 : decide (0 < k) = true := decide_eq_true (by omega)
        have j0 : (j : Int) < n := by omega
        have k0 : (0 : Int) < k := by omega
        clear hTr h0 hkk
        generalize lo.getD k 0 = lk at *
        generalize hi.getD k 0 = hk' at *
        generalize lo.getD j 0 = lj at *
        generalize hi.getD j 0 = hj at *
        have d1 : decide (lk < 0) = false := decide_eq_false (by omega)
        have d2 : decide (lk > hk') = false := decide_eq_false (by omega)
        have d3 : decide (hk' > 1099511627776) = false := decide_eq_false (by omega)
        have d4 : decide (lk < lj) = false := decide_eq_false (by omega)
        have d5 : decide (hk' < hj) = false := decide_eq_false (by omega)
        go_wp2_with fail
        go_quiet (fail)
        go_wp2_with fail
        go_quiet (fail)
        go_wp2_with fail
        go_roundw
        case rel => exact ⟨k + 1, by omega, by go_num, Lib.hid (Buf.below_drewN hb.out _)⟩
        case measure => simp [intOf]; omega
    · obtain rfl : k = n := by omega
      go_wp2_with fail
      go_ret
      exact ⟨rfl, Buf.then_ hW.out hb.out⟩
set_option maxHeartbeats 8000000 in
set_option maxRecDepth 100000 in
theorem rreach_yes (s : Int) (b1 b2 n c1 c2 : Nat) (lo hi : List Int) (w : World) (h : TV w s b1 b2 n lo hi) :
    Calls Try.prog 86 #[.agg #[.int .i64 s, .slice (some ⟨b1, 0, none⟩) n c1, .slice (some ⟨b2, 0, none⟩) n c2]] w fun r w' => r = .returned (.int .i64 (s * ((n : Int) - 1))) ∧ Below w.heap.size w w' := by
  obtain ⟨rb1, rb2⟩ := reach_bd h.s1 h.s9 h.n3 h.n9
  have hn3 : (2 : Int) ≤ n := by have := h.n3; omega
  have hn9 : (n : Int) ≤ 256 := by have := h.n9; omega
  obtain ⟨W0, hW0⟩ : ∃ wz, wz = w.alloc (.cells #[.int .i64 s, .slice (some ⟨b1, 0, none⟩) n c1, .slice (some ⟨b2, 0, none⟩) n c2] 33) := ⟨_, rfl⟩
  have p1 := Lib.hid (show W0.heap[w.heap.size]? = some (.cells #[.int .i64 s, .slice (some ⟨b1, 0, none⟩) n c1, .slice (some ⟨b2, 0, none⟩) n c2] 33 (0, 0)) by rw [hW0]; exact heap_alloc_new w _)
  have V := Lib.hid (rvalidate_yes s b1 b2 n c1 c2 lo hi W0 (by rw [hW0]; exact h.below (new_block _)))
  have hW := Lib.hid (show Below w.heap.size w W0 by rw [hW0]; exact new_block _)
  have x1 := cell_of_row W0 w.heap.size 0 _ _ _ p1.out
  have x2 := cell_of_row W0 w.heap.size 1 _ _ _ p1.out
  have x3 := cell_of_row W0 w.heap.size 2 _ _ _ p1.out
  simp at x1 x2 x3
  clear h
  go_enter Try.func86, Try.ntmps86
  go_upto_region 1 with fail
  rw [← hW0]
  clear hW0
  go_wp2_with fail
  with_reducible refine V.out.mono ?_
  rintro r w1 ⟨rfl, hb⟩
  replace p1 := Lib.hid (hop hb p1.out)
  replace hW := Lib.hid (Buf.then_ hW.out hb)
  clear hb x1 x2 x3
  have x1 := cell_of_row w1 w.heap.size 0 _ _ _ p1.out
  have x2 := cell_of_row w1 w.heap.size 1 _ _ _ p1.out
  simp at x1 x2
  go_wp2_with fail
  go_ret
  exact ⟨rfl, hW.out⟩
set_option maxHeartbeats 8000000 in
set_option maxRecDepth 100000 in
theorem rlower_yes (s : Int) (b1 b2 n c1 c2 : Nat) (lo hi : List Int) (q : Nat) (dd : Int) (w : World) (h : TV w s b1 b2 n lo hi) (hq : (q : Int) = dd / s) (hn : q < n) (d0 : 0 ≤ dd) (d9 : dd ≤ 4611686018427387904) :
    Calls Try.prog 87 #[.agg #[.int .i64 s, .slice (some ⟨b1, 0, none⟩) n c1, .slice (some ⟨b2, 0, none⟩) n c2], .int .i64 dd] w fun r w' => r = .returned (.int .i64 (lo.getD q 0)) ∧ Below w.heap.size w w' := by
  have s1 := h.s1
  have s9 := h.s9
  have hq' : (q : Int) < n := by omega
  have q9 : (q : Int) ≤ 256 := by have := h.n9; omega
  have q0 : (0 : Int) ≤ q := by omega
  have e0 : (dd).tdiv s = (q : Int) := (Int.tdiv_eq_ediv_of_nonneg (by omega)).trans hq.symm
  have e1 : (dd) / s = (q : Int) := hq.symm
  have s0 : (s == 0) = false := by rw [beq_eq_false_iff_ne]; omega
  clear hq
  obtain ⟨W0, hW0⟩ : ∃ wz, wz = w.alloc (.cells #[.int .i64 s, .slice (some ⟨b1, 0, none⟩) n c1, .slice (some ⟨b2, 0, none⟩) n c2] 33) := ⟨_, rfl⟩
  have p1 := Lib.hid (show W0.heap[w.heap.size]? = some (.cells #[.int .i64 s, .slice (some ⟨b1, 0, none⟩) n c1, .slice (some ⟨b2, 0, none⟩) n c2] 33 (0, 0)) by rw [hW0]; exact heap_alloc_new w _)
  have hT : TV W0 s b1 b2 n lo hi := by rw [hW0]; exact h.below (new_block _)
  have y := hT.at1 q hn
  have hW := Lib.hid (show Below w.heap.size w W0 by rw [hW0]; exact new_block _)
  have x1 := cell_of_row W0 w.heap.size 0 _ _ _ p1.out
  have x2 := cell_of_row W0 w.heap.size 1 _ _ _ p1.out
  have x3 := cell_of_row W0 w.heap.size 2 _ _ _ p1.out
  simp at x1 x2 x3
  clear h hT
  go_enter Try.func87, Try.ntmps87
  go_upto_region 1 with fail
  rw [← hW0]
  clear hW0
  go_wp2_with fail
  go_quiet (fail)
  go_wp2_with fail
  go_ret
  exact ⟨rfl, Buf.below_drewN hW.out _⟩
set_option maxHeartbeats 8000000 in
set_option maxRecDepth 100000 in
theorem rupper_yes (s : Int) (b1 b2 n c1 c2 : Nat) (lo hi : List Int) (q : Nat) (dd : Int) (w : World) (h : TV w s b1 b2 n lo hi) (hq : (q : Int) = (dd + s - 1) / s) (hn : q < n) (d0 : 0 ≤ dd) (d9 : dd ≤ 4611686018427387904) :
    Calls Try.prog 89 #[.agg #[.int .i64 s, .slice (some ⟨b1, 0, none⟩) n c1, .slice (some ⟨b2, 0, none⟩) n c2], .int .i64 dd] w fun r w' => r = .returned (.int .i64 (hi.getD q 0)) ∧ Below w.heap.size w w' := by
  have s1 := h.s1
  have s9 := h.s9
  have hq' : (q : Int) < n := by omega
  have q9 : (q : Int) ≤ 256 := by have := h.n9; omega
  have q0 : (0 : Int) ≤ q := by omega
  have e0 : ((dd + s - 1)).tdiv s = (q : Int) := (Int.tdiv_eq_ediv_of_nonneg (by omega)).trans hq.symm
  have e1 : ((dd + s - 1)) / s = (q : Int) := hq.symm
  have s0 : (s == 0) = false := by rw [beq_eq_false_iff_ne]; omega
  clear hq
  obtain ⟨W0, hW0⟩ : ∃ wz, wz = w.alloc (.cells #[.int .i64 s, .slice (some ⟨b1, 0, none⟩) n c1, .slice (some ⟨b2, 0, none⟩) n c2] 33) := ⟨_, rfl⟩
  have p1 := Lib.hid (show W0.heap[w.heap.size]? = some (.cells #[.int .i64 s, .slice (some ⟨b1, 0, none⟩) n c1, .slice (some ⟨b2, 0, none⟩) n c2] 33 (0, 0)) by rw [hW0]; exact heap_alloc_new w _)
  have hT : TV W0 s b1 b2 n lo hi := by rw [hW0]; exact h.below (new_block _)
  have y := hT.at2 q hn
  have hW := Lib.hid (show Below w.heap.size w W0 by rw [hW0]; exact new_block _)
  have x1 := cell_of_row W0 w.heap.size 0 _ _ _ p1.out
  have x2 := cell_of_row W0 w.heap.size 1 _ _ _ p1.out
  have x3 := cell_of_row W0 w.heap.size 2 _ _ _ p1.out
  simp at x1 x2 x3
  clear h hT
  go_enter Try.func89, Try.ntmps89
  go_upto_region 1 with fail
  rw [← hW0]
  clear hW0
  go_wp2_with fail
  go_quiet (fail)
  go_wp2_with fail
  go_ret
  exact ⟨rfl, Buf.below_drewN hW.out _⟩
set_option maxHeartbeats 8000000 in
set_option maxRecDepth 100000 in
theorem rbetween_ok (s : Int) (b1 b2 n c1 c2 : Nat) (lo hi : List Int) (near far : Int) (q1 q2 : Nat) (w : World) (h : TV w s b1 b2 n lo hi) (n0 : 0 ≤ near) (nf : near ≤ far) (f9 : far ≤ 4611686018427387904) (hr : Root.ce far ≤ s * ((n : Int) - 1))
    (h1 : (q1 : Int) = Root.rt near 32 / s) (h2 : (q2 : Int) = (Root.ce far + s - 1) / s) :
    Calls Try.prog 75 #[.agg #[.int .i64 s, .slice (some ⟨b1, 0, none⟩) n c1, .slice (some ⟨b2, 0, none⟩) n c2], .int .i64 near, .int .i64 far] w fun r w' => r = .returned (.tuple #[.int .i64 (lo.getD q1 0), .int .i64 (hi.getD q2 0), .int .i64 0]) ∧ Below w.heap.size w w' := by
  obtain ⟨r0, r9, rs0, rs1⟩ := Root.rt_spec near n0 (by omega)
  obtain ⟨e0, e9, e1⟩ := ce_spec far (by omega) f9
  have s1 := h.s1
  have s9 := h.s9
  have hre : Root.rt near 32 ≤ Root.ce far := Root.sq_le_of r0 (by omega) e0
  have hq1 : q1 < n := by
    have : Root.rt near 32 / s < n := (Int.ediv_lt_iff_lt_mul (by omega)).2 (by
      have : (n : Int) * s = s * ((n : Int) - 1) + s := by rw [Int.mul_sub, Int.mul_one, Int.mul_comm]; omega
      omega)
    omega
  have hq2 : q2 < n := by
    have : (Root.ce far + s - 1) / s < n := (Int.ediv_lt_iff_lt_mul (by omega)).2 (by
      have : (n : Int) * s = s * ((n : Int) - 1) + s := by rw [Int.mul_sub, Int.mul_one, Int.mul_comm]; omega
      omega)
    omega
  obtain ⟨W0, hW0⟩ : ∃ wz, wz = w.alloc (.cells #[.int .i64 s, .slice (some ⟨b1, 0, none⟩) n c1, .slice (some ⟨b2, 0, none⟩) n c2] 33) := ⟨_, rfl⟩
  have p1 := Lib.hid (show W0.heap[w.heap.size]? = some (.cells #[.int .i64 s, .slice (some ⟨b1, 0, none⟩) n c1, .slice (some ⟨b2, 0, none⟩) n c2] 33 (0, 0)) by rw [hW0]; exact heap_alloc_new w _)
  have hW := Lib.hid (show Below w.heap.size w W0 by rw [hW0]; exact new_block _)
  have T := Lib.hid (show TV W0 s b1 b2 n lo hi by rw [hW0]; exact h.below (new_block _))
  have V := Lib.hid fun (w' : World) (hb : Below W0.heap.size W0 w') => rvalidate_yes s b1 b2 n c1 c2 lo hi w' (T.out.below hb)
  have R := Lib.hid fun (w' : World) (hb : Below W0.heap.size W0 w') => rreach_yes s b1 b2 n c1 c2 lo hi w' (T.out.below hb)
  have F := Lib.hid fun w => Root.rfloor_all near w (by omega)
  have C := Lib.hid fun w => Root.rceil_all far w (by omega)
  have LO := Lib.hid fun (w' : World) (hb : Below W0.heap.size W0 w') => rlower_yes s b1 b2 n c1 c2 lo hi q1 (Root.rt near 32) w' (T.out.below hb) h1 hq1 r0 (by omega)
  have UP := Lib.hid fun (w' : World) (hb : Below W0.heap.size W0 w') => rupper_yes s b1 b2 n c1 c2 lo hi q2 (Root.ce far) w' (T.out.below hb) h2 hq2 e0 (by omega)
  generalize Root.rt near 32 = rn at *
  generalize Root.ce far = cf at *
  have d1 : decide (cf > s * ((n : Int) - 1)) = false := decide_eq_false (by omega)
  generalize s * ((n : Int) - 1) = sn at *
  generalize lo.getD q1 0 = x1 at *
  generalize hi.getD q2 0 = x2 at *
  clear h h1 h2 rs0 rs1 e1
  go_enter Try.func75, Try.ntmps75
  go_upto_region 1 with fail
  rw [← hW0]
  clear hW0
  have x1_ := cell_of_row W0 w.heap.size 0 _ _ _ p1.out
  have x2_ := cell_of_row W0 w.heap.size 1 _ _ _ p1.out
  have x3_ := cell_of_row W0 w.heap.size 2 _ _ _ p1.out
  simp at x1_ x2_ x3_
  go_wp2_with fail
  with_reducible refine (V.out _ (Below.refl _ _)).mono ?_
  rintro r w1 ⟨rfl, b1'⟩
  clear x1_ x2_ x3_
  obtain ⟨W1, hW1⟩ : ∃ wz, wz = w1 := ⟨_, rfl⟩
  rw [← hW1] at b1' ⊢
  have B1 := Lib.hid b1'
  have P1 := Lib.hid (hop b1' p1.out)
  clear b1' hW1
  go_wp2_with fail
  refine Buf.region_calm W1 (by kernel_rfl) (by kernel_rfl) (Below.refl _ _) ?_
  repeat (first
    | (go_big_quiet_want; refine quiet_row 33 (.tmp 3) rfl w.heap.size rfl 33 #[.int .i64 s, .slice (some ⟨b1, 0, none⟩) n c1, .slice (some ⟨b2, 0, none⟩) n c2] (0, 0) _ (fun _ hC => hop hC P1.out) rfl rfl rfl ?_; go_big_quiet_on; try simp only [Act.put, List.setIfInBounds_toArray, List.set_cons_zero, List.set_cons_succ])
    | go_big_quiet_step ((intro hC; first
       | (go_at_call 85; with_reducible exact calm0 hC (C.out _))
       | (go_at_call 86; with_reducible exact Buf.calm hC (R.out _ (Buf.then_ B1.out hC)))
       | rfl)))
  refine wpQuiet_nil ?_
  intro w2 b2'
  obtain ⟨W2, hW2⟩ : ∃ wz, wz = w2 := ⟨_, rfl⟩
  rw [← hW2] at b2' ⊢
  have B2 := Lib.hid (Buf.then_ B1.out b2')
  have P2 := Lib.hid (hop b2' P1.out)
  clear b2' hW2 B1 P1
  go_wp2_with fail
  refine Buf.region_calm W2 (by kernel_rfl) (by kernel_rfl) (Below.refl _ _) ?_
  repeat (first
    | (go_big_quiet_want; refine quiet_row 33 (.tmp 3) rfl w.heap.size rfl 33 #[.int .i64 s, .slice (some ⟨b1, 0, none⟩) n c1, .slice (some ⟨b2, 0, none⟩) n c2] (0, 0) _ (fun _ hC => hop hC P2.out) rfl rfl rfl ?_; go_big_quiet_on; try simp only [Act.put, List.setIfInBounds_toArray, List.set_cons_zero, List.set_cons_succ])
    | go_big_quiet_step ((intro hC; first
       | (go_at_call 88; with_reducible exact calm0 hC (F.out _))
       | (go_at_call 85; with_reducible exact calm0 hC (C.out _))
       | (go_at_call 87; with_reducible exact Buf.calm hC (LO.out _ (Buf.then_ B2.out hC)))
       | (go_at_call 89; with_reducible exact Buf.calm hC (UP.out _ (Buf.then_ B2.out hC)))
       | rfl)))
  refine wpQuiet_nil ?_
  intro w3 b3'
  go_wp2_with fail
  go_ret3
  exact ⟨rfl, Buf.then_ hW.out (Buf.then_ B2.out b3')⟩
end Trav
end Go.Proofs.Ytldgihlhioeipaa

/- The reference of layer 26 at the tables of the dice. -/
set_option linter.unusedVariables false
set_option linter.unusedSimpArgs false
namespace Go.Proofs.Ytldgihlhioeipaa
open Go.RowKit Qt
namespace Bound
theorem hop {w w' : World} {b : Nat} {o : Obj} (hb : Below w.heap.size w w') (h : w.heap[b]? = some o) : w'.heap[b]? = some o := Trav.hop hb h
theorem nearV_of {a b c d e f x y z : Int} (h1 : Geo.BV a b c d e f) (h2 : Geo.PV x y z) (w : World) : Calls Try.prog 76 #[.agg #[.int .i64 a, .int .i64 b, .int .i64 c, .int .i64 d, .int .i64 e, .int .i64 f], .agg #[.int .i64 x, .int .i64 y, .int .i64 z]] w fun r w' => r = .returned (.int .i64 (Geo.near3 a b c d e f x y z)) ∧ Below w.heap.size w w' := Geo.rnear_3 a b c d e f x y z (Geo.bvB_of h1) (Geo.pvB_of h2) w
theorem farV_of {a b c d e f x y z : Int} (h1 : Geo.BV a b c d e f) (h2 : Geo.PV x y z) (w : World) : Calls Try.prog 77 #[.agg #[.int .i64 a, .int .i64 b, .int .i64 c, .int .i64 d, .int .i64 e, .int .i64 f], .agg #[.int .i64 x, .int .i64 y, .int .i64 z]] w fun r w' => r = .returned (.int .i64 (Geo.far3 a b c d e f x y z)) ∧ Below w.heap.size w w' := Geo.rfar_3 a b c d e f x y z (Geo.bvB_of h1) (Geo.pvB_of h2) w
theorem rvb_of {a b c d e f : Int} (h1 : Geo.BV a b c d e f) (w : World) : Calls Try.prog 36 #[.agg #[.int .i64 a, .int .i64 b, .int .i64 c, .int .i64 d, .int .i64 e, .int .i64 f]] w fun r w' => r = .returned (.bool true) ∧ Below w.heap.size w w' := by have := Geo.rvalidBox_any a b c d e f w; rwa [Geo.bvB_of h1] at this
theorem rvp_of {x y z : Int} (h1 : Geo.PV x y z) (w : World) : Calls Try.prog 58 #[.agg #[.int .i64 x, .int .i64 y, .int .i64 z]] w fun r w' => r = .returned (.bool true) ∧ Below w.heap.size w w' := by have := Geo.rvalid_any x y z w; rwa [Geo.pvB_of h1] at this
set_option maxHeartbeats 8000000 in
set_option maxRecDepth 100000 in
theorem rbox_int (s : Int) (b1 b2 n c1 c2 : Nat) (lo hi : List Int) (a b c d e f x y z : Int) (w : World) (h : Wide w s b1 b2 n lo hi) (h1 : Geo.BV a b c d e f) (h2 : Geo.PV x y z) (hf : Geo.far3 a b c d e f x y z ≤ 160000) :
    Calls Try.prog 61 #[.agg #[.int .i64 s, .slice (some ⟨b1, 0, none⟩) n c1, .slice (some ⟨b2, 0, none⟩) n c2], .agg #[.int .i64 a, .int .i64 b, .int .i64 c, .int .i64 d, .int .i64 e, .int .i64 f], .agg #[.int .i64 x, .int .i64 y, .int .i64 z]] w fun r w' => r = .returned (.tuple #[.int .i64 (LO s lo (Geo.near3 a b c d e f x y z)), .int .i64 (HI s hi (Geo.far3 a b c d e f x y z)), .int .i64 0]) ∧ Below w.heap.size w w' := by
  obtain ⟨m0, m1, _⟩ := near_far h1 h2
  obtain ⟨q1, _, e1, _, _, _, e3, _⟩ := h.at m0 (by omega)
  obtain ⟨_, q2, _, e2, _, _, _, e4⟩ := h.at (by omega) hf
  rw [e3, e4]
  have ce := ce400 (by omega) hf
  have re := h.re
  have hr : Root.ce (Geo.far3 a b c d e f x y z) ≤ s * ((n : Int) - 1) := by omega
  obtain ⟨W0, hW0⟩ : ∃ wz, wz = ((w.alloc (.cells #[.int .i64 s, .slice (some ⟨b1, 0, none⟩) n c1, .slice (some ⟨b2, 0, none⟩) n c2] 33)).alloc (.cells #[.int .i64 a, .int .i64 b, .int .i64 c, .int .i64 d, .int .i64 e, .int .i64 f] 26)).alloc (.cells #[.int .i64 x, .int .i64 y, .int .i64 z] 24) := ⟨_, rfl⟩
  have B0 : Below w.heap.size w W0 := by rw [hW0]; exact Buf.then_ (Buf.then_ (Geo.new_block _) (Geo.new_block _)) (Geo.new_block _)
  have T := Lib.hid (h.tv.below B0)
  have p1 := Lib.hid (show W0.heap[w.heap.size]? = some (.cells #[.int .i64 s, .slice (some ⟨b1, 0, none⟩) n c1, .slice (some ⟨b2, 0, none⟩) n c2] 33 (0, 0)) by rw [hW0]; exact Geo.blk_alloc (Geo.blk_alloc (Geo.blk_new w _) _) _)
  have p2 := Lib.hid (show W0.heap[w.heap.size + 1]? = some (.cells #[.int .i64 a, .int .i64 b, .int .i64 c, .int .i64 d, .int .i64 e, .int .i64 f] 26 (0, 0)) by rw [hW0]; exact Geo.blk_alloc (Geo.blk_new1 w _ _) _)
  have p3 := Lib.hid (show W0.heap[w.heap.size + 1 + 1]? = some (.cells #[.int .i64 x, .int .i64 y, .int .i64 z] 24 (0, 0)) by rw [hW0]; exact Geo.blk_new2 w _ _ _)
  have hW := Lib.hid B0
  have V := Lib.hid fun (w' : World) (hb : Below W0.heap.size W0 w') => Trav.rvalidate_yes s b1 b2 n c1 c2 lo hi w' (T.out.below hb)
  have VB := Lib.hid fun w' => rvb_of h1 w'
  have VP := Lib.hid fun w' => rvp_of h2 w'
  have NR := Lib.hid fun w' => nearV_of h1 h2 w'
  have FR := Lib.hid fun w' => farV_of h1 h2 w'
  have BW := Lib.hid fun (w' : World) (hb : Below W0.heap.size W0 w') => Trav.rbetween_ok s b1 b2 n c1 c2 lo hi _ _ q1 q2 w' (T.out.below hb) m0 m1 (by omega) hr e1 e2
  generalize Geo.near3 a b c d e f x y z = nr at *
  generalize Geo.far3 a b c d e f x y z = fr at *
  generalize lo.getD q1 0 = x1 at *
  generalize hi.getD q2 0 = x2 at *
  clear h e1 e2 e3 e4 ce re hr B0 h1 h2 m0 m1 hf
  go_enter Try.func61, Try.ntmps61
  go_upto_region 1 with fail
  rw [← hW0]
  clear hW0
  have x1_ := cell_of_row W0 w.heap.size 0 _ _ _ p1.out
  have x2_ := cell_of_row W0 w.heap.size 1 _ _ _ p1.out
  have x3_ := cell_of_row W0 w.heap.size 2 _ _ _ p1.out
  simp at x1_ x2_ x3_
  go_wp2_with fail
  with_reducible refine (V.out _ (Below.refl _ _)).mono ?_
  rintro r w1 ⟨rfl, b1'⟩
  have B1 := Lib.hid b1'
  have P2 := Lib.hid (hop b1' p2.out)
  clear b1' x1_ x2_ x3_
  obtain ⟨u1, u2, u3, u4, u5, u6⟩ := Geo.cells6 P2.out
  go_wp2_with fail
  with_reducible refine (VB.out _).mono ?_
  rintro r w2 ⟨rfl, b2'⟩
  have B2 := Lib.hid (Buf.then_ B1.out b2')
  have P3 := Lib.hid (hop B2.out p3.out)
  clear b2' u1 u2 u3 u4 u5 u6 B1 P2
  obtain ⟨u1, u2, u3, _, _, _⟩ := Geo.cells3 P3.out
  go_wp2_with fail
  with_reducible refine (VP.out _).mono ?_
  rintro r w3 ⟨rfl, b3'⟩
  obtain ⟨W3, hW3⟩ : ∃ wz, wz = w3 := ⟨_, rfl⟩
  rw [← hW3] at b3' ⊢
  have B3 := Lib.hid (Buf.then_ B2.out b3')
  have P1 := Lib.hid (hop B3.out p1.out)
  have P2 := Lib.hid (hop B3.out p2.out)
  have P3 := Lib.hid (hop B3.out p3.out)
  clear b3' hW3 u1 u2 u3 B2
  go_wp2_with fail
  refine Buf.region_calm W3 (by kernel_rfl) (by kernel_rfl) (Below.refl _ _) ?_
  repeat (first
    | (go_big_quiet_want; refine quiet_row 33 (.tmp 3) rfl w.heap.size rfl 33 #[.int .i64 s, .slice (some ⟨b1, 0, none⟩) n c1, .slice (some ⟨b2, 0, none⟩) n c2] (0, 0) _ (fun _ hC => hop hC P1.out) rfl rfl rfl ?_; go_big_quiet_on; try simp only [Act.put, List.setIfInBounds_toArray, List.set_cons_zero, List.set_cons_succ])
    | (go_big_quiet_want; refine quiet_row 26 (.tmp 4) rfl (w.heap.size + 1) rfl 26 #[.int .i64 a, .int .i64 b, .int .i64 c, .int .i64 d, .int .i64 e, .int .i64 f] (0, 0) _ (fun _ hC => hop hC P2.out) rfl rfl rfl ?_; go_big_quiet_on; try simp only [Act.put, List.setIfInBounds_toArray, List.set_cons_zero, List.set_cons_succ])
    | (go_big_quiet_want; refine quiet_row 24 (.tmp 5) rfl (w.heap.size + 1 + 1) rfl 24 #[.int .i64 x, .int .i64 y, .int .i64 z] (0, 0) _ (fun _ hC => hop hC P3.out) rfl rfl rfl ?_; go_big_quiet_on; try simp only [Act.put, List.setIfInBounds_toArray, List.set_cons_zero, List.set_cons_succ])
    | go_big_quiet_step ((intro hC; first
       | (go_at_call 76; with_reducible exact Buf.calm hC (NR.out _))
       | (go_at_call 77; with_reducible exact Buf.calm hC (FR.out _))
       | (go_at_call 75; with_reducible exact Buf.calm hC (BW.out _ (Buf.then_ B3.out hC)))
       | rfl)))
  refine wpQuiet_nil ?_
  intro w4 b4'
  go_wp2_with fail
  go_ret3
  exact ⟨rfl, Buf.then_ hW.out (Buf.then_ B3.out b4')⟩
set_option maxHeartbeats 8000000 in
set_option maxRecDepth 100000 in
theorem rvalidPhase_yes (x y z E L W : Int) (h : PhV x y z E L W) (w : World) :
    Calls Try.prog 60 #[.agg #[.int .i64 x, .int .i64 y, .int .i64 z, .int .i64 E, .int .i64 L, .int .i64 W]] w fun r w' => r = .returned (.bool true) ∧ Below w.heap.size w w' := by
  obtain ⟨hp, e0, el, l9, w1, w9⟩ := h
  have VP := Lib.hid fun w' => rvp_of hp w'
  have p1 := Lib.hid (Geo.blk_new w (.cells #[.int .i64 x, .int .i64 y, .int .i64 z, .int .i64 E, .int .i64 L, .int .i64 W] 63))
  have hW := Lib.hid (Geo.new_block (w := w) (.cells #[.int .i64 x, .int .i64 y, .int .i64 z, .int .i64 E, .int .i64 L, .int .i64 W] 63))
  clear hp
  obtain ⟨u1, u2, u3, u4, u5, u6⟩ := Geo.cells6 p1.out
  go_enter Try.func60, Try.ntmps60
  go_wp2_with fail
  with_reducible refine (VP.out _).mono ?_
  rintro r w1 ⟨rfl, hb⟩
  replace p1 := Lib.hid (hop hb p1.out)
  replace hW := Lib.hid (Buf.then_ hW.out hb)
  clear hb u1 u2 u3 u4 u5 u6
  obtain ⟨u1, u2, u3, u4, u5, u6⟩ := Geo.cells6 p1.out
  go_wp2_with fail
  go_ret
  exact ⟨by first | rfl | simp [w9], hW.out⟩
set_option maxHeartbeats 8000000 in
set_option maxRecDepth 100000 in
theorem rzone_bx (s : Int) (b1 b2 n c1 c2 : Nat) (lo hi : List Int) (a b c d e f x y z E L W : Int) (w : World) (h : Wide w s b1 b2 n lo hi) (h1 : Geo.BV a b c d e f) (hp : PhV x y z E L W) (hf : Geo.far3 a b c d e f x y z ≤ 160000) :
    Calls Try.prog 66 #[.agg #[.int .i64 s, .slice (some ⟨b1, 0, none⟩) n c1, .slice (some ⟨b2, 0, none⟩) n c2], .agg #[.int .i64 a, .int .i64 b, .int .i64 c, .int .i64 d, .int .i64 e, .int .i64 f], .agg #[.int .i64 x, .int .i64 y, .int .i64 z, .int .i64 E, .int .i64 L, .int .i64 W]] w fun r w' => r = .returned (.tuple #[.agg #[.int .i64 (E - HI s hi (Geo.far3 a b c d e f x y z)), .int .i64 (L - LO s lo (Geo.near3 a b c d e f x y z))], .int .i64 0]) ∧ Below w.heap.size w w' := by
  obtain ⟨m0, m1, _⟩ := near_far h1 hp.pv
  have bd1 := h.bd m0 (by omega)
  have bd2 := h.bd (by omega) hf
  have e0 := hp.e0; have el := hp.el; have l9 := hp.l9
  obtain ⟨W0, hW0⟩ : ∃ wz, wz = (((w.alloc (.cells #[.int .i64 s, .slice (some ⟨b1, 0, none⟩) n c1, .slice (some ⟨b2, 0, none⟩) n c2] 33)).alloc (.cells #[.int .i64 a, .int .i64 b, .int .i64 c, .int .i64 d, .int .i64 e, .int .i64 f] 26)).alloc (.cells #[.int .i64 x, .int .i64 y, .int .i64 z, .int .i64 E, .int .i64 L, .int .i64 W] 63)).alloc (.cells #[.int .i64 0, .int .i64 0] 100) := ⟨_, rfl⟩
  have B0 : Below w.heap.size w W0 := by rw [hW0]; exact bel4 w _ _ _ _
  have H := Lib.hid (h.below B0)
  have p1 := Lib.hid (show W0.heap[w.heap.size]? = some (.cells #[.int .i64 s, .slice (some ⟨b1, 0, none⟩) n c1, .slice (some ⟨b2, 0, none⟩) n c2] 33 (0, 0)) by rw [hW0]; exact nb0 w _ _ _ _)
  have p2 := Lib.hid (show W0.heap[w.heap.size + 1]? = some (.cells #[.int .i64 a, .int .i64 b, .int .i64 c, .int .i64 d, .int .i64 e, .int .i64 f] 26 (0, 0)) by rw [hW0]; exact nb1 w _ _ _ _)
  have p3 := Lib.hid (show W0.heap[w.heap.size + 1 + 1]? = some (.cells #[.int .i64 x, .int .i64 y, .int .i64 z, .int .i64 E, .int .i64 L, .int .i64 W] 63 (0, 0)) by rw [hW0]; exact nb2 w _ _ _ _)
  have p4 := Lib.hid (show W0.heap[w.heap.size + 1 + 1 + 1]? = some (.cells #[.int .i64 0, .int .i64 0] 100 (0, 0)) by rw [hW0]; exact nb3 w _ _ _ _)
  have hW := Lib.hid B0
  have V := Lib.hid fun (w' : World) (hb : Below W0.heap.size W0 w') => Trav.rvalidate_yes s b1 b2 n c1 c2 lo hi w' (H.out.below hb).tv
  have VB := Lib.hid fun w' => rvb_of h1 w'
  have VP := Lib.hid fun w' => rvalidPhase_yes x y z E L W hp w'
  have IV := Lib.hid fun (w' : World) (hb : Below W0.heap.size W0 w') => rbox_int s b1 b2 n c1 c2 lo hi a b c d e f x y z w' (H.out.below hb) h1 hp.pv hf
  generalize LO s lo (Geo.near3 a b c d e f x y z) = lw at *
  generalize HI s hi (Geo.far3 a b c d e f x y z) = hg at *
  clear h B0 h1 hp m0 m1 hf
  go_enter Try.func66, Try.ntmps66
  go_upto_region 1 with fail
  rw [← hW0]
  clear hW0
  have x1_ := cell_of_row W0 w.heap.size 0 _ _ _ p1.out
  have x2_ := cell_of_row W0 w.heap.size 1 _ _ _ p1.out
  have x3_ := cell_of_row W0 w.heap.size 2 _ _ _ p1.out
  simp at x1_ x2_ x3_
  go_wp2_with fail
  with_reducible refine (V.out _ (Below.refl _ _)).mono ?_
  rintro r w1 ⟨rfl, b1'⟩
  have B1 := Lib.hid b1'
  have P2 := Lib.hid (hop b1' p2.out)
  clear b1' x1_ x2_ x3_
  obtain ⟨u1, u2, u3, u4, u5, u6⟩ := Geo.cells6 P2.out
  go_wp2_with fail
  with_reducible refine (VB.out _).mono ?_
  rintro r w2 ⟨rfl, b2'⟩
  have B2 := Lib.hid (Buf.then_ B1.out b2')
  have P3 := Lib.hid (hop B2.out p3.out)
  clear b2' u1 u2 u3 u4 u5 u6 B1 P2
  obtain ⟨u1, u2, u3, u4, u5, u6⟩ := Geo.cells6 P3.out
  go_wp2_with fail
  with_reducible refine (VP.out _).mono ?_
  rintro r w3 ⟨rfl, b3'⟩
  have B3 := Lib.hid (Buf.then_ B2.out b3')
  have P1 := Lib.hid (hop B3.out p1.out)
  have P2 := Lib.hid (hop B3.out p2.out)
  have P3 := Lib.hid (hop B3.out p3.out)
  clear b3' B2 u1 u2 u3 u4 u5 u6
  have x1_ := cell_of_row w3 w.heap.size 0 _ _ _ P1.out
  have x2_ := cell_of_row w3 w.heap.size 1 _ _ _ P1.out
  have x3_ := cell_of_row w3 w.heap.size 2 _ _ _ P1.out
  simp at x1_ x2_ x3_
  obtain ⟨u1, u2, u3, u4, u5, u6⟩ := Geo.cells6 P2.out
  obtain ⟨v1, v2, v3, v4, v5, v6⟩ := Geo.cells6 P3.out
  go_wp2_with fail
  with_reducible refine (IV.out _ B3.out).mono ?_
  rintro r w4 ⟨rfl, b4'⟩
  have B4 := Lib.hid (Buf.then_ B3.out b4')
  have P3 := Lib.hid (hop B4.out p3.out)
  have P4 := Lib.hid (hop B4.out p4.out)
  clear b4' x1_ x2_ x3_ u1 u2 u3 u4 u5 u6 v1 v2 v3 v4 v5 v6 B3
  obtain ⟨v1, v2, v3, v4, v5, v6⟩ := Geo.cells6 P3.out
  obtain ⟨z1, z2⟩ := zc P4.out
  have f1 := frozen_of_row w4 (w.heap.size + 1 + 1 + 1) 0 _ _ P4.out
  have f2 := frozen_of_row w4 (w.heap.size + 1 + 1 + 1) 1 _ _ P4.out
  go_wp2_with fail
  have r1 := (heap_setCell_same w4 (w.heap.size + 1 + 1 + 1) 0 _ _ (.int .i64 (E - hg)) P4.out).trans rfl
  have r2 := (heap_setCell_same _ (w.heap.size + 1 + 1 + 1) 1 _ _ (.int .i64 (L - lw)) r1).trans rfl
  obtain ⟨t1, t2⟩ := zc r2
  have hB := Lib.hid (((Buf.then_ hW.out B4.out).setCell (p := ⟨w.heap.size + 1 + 1 + 1, 0, none⟩) (by simp; omega) (.int .i64 (E - hg))).setCell (p := ⟨w.heap.size + 1 + 1 + 1, 1, none⟩) (by simp; omega) (.int .i64 (L - lw)))
  refine bodyPost_ret (v := .tuple #[.agg #[.int .i64 (E - hg), .int .i64 (L - lw)], .int .i64 0]) (by simp [results, Try.results66, go_sem, t1, t2]) rfl ⟨rfl, hB.out⟩
end Bound
end Go.Proofs.Ytldgihlhioeipaa

/- The reference of layer 27: Residual, Cost, Best. -/
set_option linter.unusedVariables false
set_option linter.unusedSimpArgs false
namespace Go.Proofs.Ytldgihlhioeipaa
open Go.RowKit Qt
namespace Mis
set_option maxHeartbeats 8000000 in
set_option maxRecDepth 100000 in
theorem rres_any (z : Int × Int) (t : Int) (f0 : -1125899906842624 ≤ z.1) (f1 : z.1 ≤ 1125899906842624) (t0 : -1125899906842624 ≤ z.2) (t1 : z.2 ≤ 1125899906842624) (x0 : -1125899906842624 ≤ t) (x1 : t ≤ 1125899906842624) (w : World) :
    Calls Try.prog 78 #[.agg #[.int .i64 z.1, .int .i64 z.2], .int .i64 t] w fun e w' => e = .returned (.int .i64 (res z t)) ∧ Below w.heap.size w w' := by
  have he : max 0 (max (z.1 - t) (t - z.2)) = res z t := by unfold res; omega
  obtain ⟨z1, z2⟩ := z
  dsimp only at *
  have p1 := heap_alloc_new w (.cells #[.int .i64 z1, .int .i64 z2] 100)
  obtain ⟨k1, k2⟩ := cell2 p1
  generalize res (z1, z2) t = rr at *
  replace he := Lib.hid he
  go_enter Try.func78, Try.ntmps78
  go_wp2
  go_ret
  exact ⟨congrArg (fun z => Ending.returned (Value.int .i64 z)) he.out, new_block _⟩
set_option maxHeartbeats 8000000 in
set_option maxRecDepth 100000 in
theorem rcost_any {w : World} {g gz cc cz : Nat} {L : List Ph} {Z : List (Int × Int)} (a b c d e f s : Int) (tl th : Option Addr) (tn tm tc td : Nat) (cap : Int) (t : Int) (h : Cs cap L Z) (hp : PhR w g L) (hz : ZnR w gz Z) (hc : L.length ≤ cc) (hcz : L.length ≤ cz) (hcm : cz ≤ maxLen) (t0 : -1125899906842624 ≤ t) (t1 : t ≤ 1125899906842624) (n : Nat) (hn : n = L.length) :
    Calls Try.prog 67 #[.agg #[.int .i64 a, .int .i64 b, .int .i64 c, .int .i64 d, .int .i64 e, .int .i64 f, .int .i64 s, .slice tl tn tc, .slice th tm td, .slice (some ⟨g, 0, none⟩) n cc, .int .i64 cap], .slice (some ⟨gz, 0, none⟩) n cz, .int .i64 t] w fun r w' => r = .returned (.int .i64 (ck cap (wt L) (zn Z) t n)) ∧ Below w.heap.size w w' := by
  have H := Lib.hid h
  have n9 : n ≤ 64 := by rw [hn]; exact h.n9
  have n1 : 1 ≤ n := by rw [hn]; exact h.n1
  obtain ⟨c0, c9⟩ : 1 ≤ cap ∧ cap ≤ 2000 := ⟨h.c0, h.c9⟩
  rw [← hn] at hc hcz
  have ncz : (n : Int) ≤ cz := by omega
  have ncc : (n : Int) ≤ cc := by omega
  unfold maxLen at hcm
  have Hn := Lib.hid hn
  obtain ⟨W0, hW0⟩ : ∃ wz, wz = w.alloc (.cells #[.int .i64 a, .int .i64 b, .int .i64 c, .int .i64 d, .int .i64 e, .int .i64 f, .int .i64 s, .slice tl tn tc, .slice th tm td, .slice (some ⟨g, 0, none⟩) n cc, .int .i64 cap] 36) := ⟨_, rfl⟩
  have B0 : Below w.heap.size w W0 := by rw [hW0]; exact new_block _
  have p1 := Lib.hid (show W0.heap[w.heap.size]? = some (.cells #[.int .i64 a, .int .i64 b, .int .i64 c, .int .i64 d, .int .i64 e, .int .i64 f, .int .i64 s, .slice tl tn tc, .slice th tm td, .slice (some ⟨g, 0, none⟩) n cc, .int .i64 cap] 36 (0, 0)) by rw [hW0]; exact heap_alloc_new w _)
  have HP := Lib.hid (hp.below B0)
  have HZ := Lib.hid (hz.below B0)
  have hW := Lib.hid B0
  have CK := Lib.hid (ck_bd cap (wt L) (zn Z) t (by omega) c9)
  clear h hp hz hn B0
  go_enter Try.func67, Try.ntmps67
  go_upto_region 1 with fail
  rw [← hW0]
  clear hW0
  go_wp2_with fail
  go_loopw [7, 8] (fun u i wr => ∃ (k : Nat) (x : Int), k ≤ n ∧ i = .int .i64 k ∧ u = .int .i64 x ∧ Hid (x = ck cap (wt L) (zn Z) t k) ∧ Hid (Below W0.heap.size W0 wr)) (fun _ i _ => ((n : Int) - intOf i).toNat)
  case atStart => exact ⟨0, 0, Nat.zero_le _, rfl, rfl, Lib.hid rfl, Lib.hid (Below.refl _ _)⟩
  case round =>
    obtain ⟨k, x, hk, rfl, rfl, hx, hb⟩ := hrel
    by_cases hlt : k < n
    · have hlt' : (k : Int) < n := by omega
      have hlt2 : (k : Int) < cz := by omega
      obtain ⟨q, hq⟩ : ∃ q, L[k]? = some q := ⟨L[k]'(by rw [← Hn.out]; exact hlt), List.getElem?_eq_getElem _⟩
      obtain ⟨⟨z1, z2⟩, hzz⟩ : ∃ q, Z[k]? = some q := ⟨Z[k]'(by rw [H.out.nz, ← Hn.out]; exact hlt), List.getElem?_eq_getElem _⟩
      obtain ⟨y0, y1, y2, y3⟩ := H.out.z k _ hzz
      obtain ⟨u0, u1⟩ := H.out.w k _ hq
      dsimp only at y0 y1 y2 y3
      have hxk := CK.out k fun j hj => H.out.wts j (by rw [← Hn.out]; omega)
      have hxn : ck cap (wt L) (zn Z) t (k + 1) = x + q.W * min cap (res (z1, z2) t) := by
        show ck cap (wt L) (zn Z) t k + wt L k * min (res (zn Z k) t) cap = _
        rw [wt_at hq, zn_at hzz, hx.out, Int.min_comm]
      rw [← hx.out] at hxk
      have r0 := res0 (z1, z2) t
      have RS := Lib.hid fun w' => rres_any (z1, z2) t y0 y1 y2 y3 t0 t1 w'
      obtain ⟨mm, hmm⟩ : ∃ m, m = min cap (res (z1, z2) t) := ⟨_, rfl⟩
      rw [← hmm] at hxn
      have mb : 0 ≤ mm ∧ mm ≤ 2000 := by omega
      have pb : 0 ≤ q.W * mm ∧ q.W * mm ≤ 100 * 2000 := ⟨Int.mul_nonneg u0 mb.1, Int.mul_le_mul u1 mb.2 mb.1 (by omega)⟩
      generalize res (z1, z2) t = rz at *
      obtain ⟨wy, hwy⟩ : ∃ wy, wy = wr := ⟨_, rfl⟩
      rw [← hwy] at hb ⊢
      clear hwy
      have E1 := Lib.hid fun w' (h' : Below wy.heap.size wy w') => c11 (Mis.hb (Buf.then_ hb.out h') p1.out)
      have E2 := Lib.hid fun w' (h' : Below wy.heap.size wy w') => (HP.out.below (Buf.then_ hb.out h')).2 k _ hq
      have E3 := Lib.hid fun w' (h' : Below wy.heap.size wy w') => (HZ.out.below (Buf.then_ hb.out h')).2 k _ hzz
      obtain ⟨qx, qy, qz, qE, qL, qW⟩ := q
      dsimp only at u0 u1 pb hxn E2 E3
      replace hxn := Lib.hid hxn
      replace hmm := Lib.hid hmm
      have v1 : wrap64 (qW * mm) = qW * mm := IntWalk.wrap64_in _ ⟨by omega, by omega⟩
      have v2 : wrap64 (x + qW * mm) = x + qW * mm := IntWalk.wrap64_in _ ⟨by omega, by omega⟩
      clear hq hzz y0 y1 y2 y3 hxk r0
      go_wp2_with fail
      refine Buf.region_calm wy (by kernel_rfl) (by kernel_rfl) (Below.refl _ _) ?_
      repeat (go_big_quiet_step ((intro hC; first
        | (go_at_call 78; with_reducible exact Buf.calm hC (RS.out _))
        | rfl
        | (obtain ⟨a0, a1, a2, a3, a4, a5, a6, a7, a8, a9, a10⟩ := E1.out _ hC; obtain ⟨f0, f1, f2, f3, f4, f5⟩ := E2.out _ hC; obtain ⟨g0, g1⟩ := E3.out _ hC; simp only [a9, a10, f5, g0, g1, Result.andThen_ok]; exact ⟨trivial, rfl⟩))))
      refine wpQuiet_nil ?_
      intro w4 hb4
      rw [← hmm.out, v1, v2]
      have HB := Lib.hid (Buf.then_ hb.out hb4)
      clear v1 v2 hb4 E1 E2 E3 RS
      obtain ⟨xn, hxe⟩ : ∃ z, z = x + qW * mm := ⟨_, rfl⟩
      rw [← hxe]
      replace hxe := Lib.hid (hxe.trans hxn.out.symm)
      clear hxn hmm pb
      go_wp2_with fail
      go_roundw
      case rel => exact ⟨k + 1, xn, by omega, by go_num, rfl, hxe, HB⟩
      case measure => simp [intOf]; omega
    · obtain rfl : k = n := by omega
      go_wp2_with fail
      go_ret
      exact ⟨(by rw [hx.out]; rfl), Buf.then_ hW.out hb.out⟩
end Mis
end Go.Proofs.Ytldgihlhioeipaa

/- The reference of layer 27: Best. -/
set_option linter.unusedVariables false
set_option linter.unusedSimpArgs false
namespace Go.Proofs.Ytldgihlhioeipaa
open Go.RowKit Qt
namespace Mis
set_option maxHeartbeats 8000000 in
set_option maxRecDepth 100000 in
theorem bst_succ (c : Int → Int) (e : Nat → Int) (k : Nat) (hk : 0 < k) : bst c e (k + 1) = if c (e k) < (bst c e k).2 ∨ (c (e k) = (bst c e k).2 ∧ e k < (bst c e k).1) then (e k, c (e k)) else bst c e k := by
  by_cases h : c (e k) < (bst c e k).2 ∨ (c (e k) = (bst c e k).2 ∧ e k < (bst c e k).1)
  · rw [if_pos h]; have := bst_yes c e k (.inr h); exact Prod.ext this.1 this.2
  · rw [if_neg h]; have := bst_not c e k (by intro h'; rcases h' with h' | h'; omega; exact h h'); exact Prod.ext this.1 this.2
theorem bst_one (c : Int → Int) (e : Nat → Int) : bst c e 1 = (e 0, c (e 0)) := by
  have := bst_yes c e 0 (.inl rfl); exact Prod.ext this.1 this.2
/-- The reference begins with the first candidate and looks at it once more. -/
def bt (c : Int → Int) (e : Nat → Int) : Nat → Int × Int
  | 0 => (e 0, c (e 0))
  | k + 1 => if c (e k) < (bt c e k).2 ∨ (c (e k) = (bt c e k).2 ∧ e k < (bt c e k).1) then (e k, c (e k)) else bt c e k
theorem bt_bst (c : Int → Int) (e : Nat → Int) : ∀ k, bt c e (k + 1) = bst c e (k + 1)
  | 0 => by
    rw [bst_one]; unfold bt; rw [if_neg]; rfl
    unfold bt; simp
  | k + 1 => by
    rw [bst_succ c e (k + 1) (by omega), ← bt_bst c e k]; rfl
set_option maxHeartbeats 8000000 in
set_option maxRecDepth 100000 in
theorem rbest_any {w : World} {g gz cc cz : Nat} {L : List Ph} {Z : List (Int × Int)} (a b c d e f s : Int) (tl th : Option Addr) (tn tm tc td : Nat) (cap : Int) (h : Cs cap L Z) (hp : PhR w g L) (hz : ZnR w gz Z) (hc : L.length ≤ cc) (hcz : L.length ≤ cz) (hcm : cz ≤ maxLen) (n : Nat) (hn : n = L.length) :
    Calls Try.prog 48 #[.agg #[.int .i64 a, .int .i64 b, .int .i64 c, .int .i64 d, .int .i64 e, .int .i64 f, .int .i64 s, .slice tl tn tc, .slice th tm td, .slice (some ⟨g, 0, none⟩) n cc, .int .i64 cap], .slice (some ⟨gz, 0, none⟩) n cz] w fun r w' => r = .returned (.tuple #[.int .i64 (best cap (wt L) (zn Z) n).1, .int .i64 (best cap (wt L) (zn Z) n).2]) ∧ Below w.heap.size w w' := by
  have H := Lib.hid h
  have n9 : n ≤ 64 := by rw [hn]; exact h.n9
  have n1 : 1 ≤ n := by rw [hn]; exact h.n1
  have Hn := Lib.hid hn
  obtain ⟨W0, hW0⟩ : ∃ wz, wz = w.alloc (.cells #[.int .i64 a, .int .i64 b, .int .i64 c, .int .i64 d, .int .i64 e, .int .i64 f, .int .i64 s, .slice tl tn tc, .slice th tm td, .slice (some ⟨g, 0, none⟩) n cc, .int .i64 cap] 36) := ⟨_, rfl⟩
  have B0 : Below w.heap.size w W0 := by rw [hW0]; exact new_block _
  have p1 := Lib.hid (show W0.heap[w.heap.size]? = some (.cells #[.int .i64 a, .int .i64 b, .int .i64 c, .int .i64 d, .int .i64 e, .int .i64 f, .int .i64 s, .slice tl tn tc, .slice th tm td, .slice (some ⟨g, 0, none⟩) n cc, .int .i64 cap] 36 (0, 0)) by rw [hW0]; exact heap_alloc_new w _)
  have CC := Lib.hid fun (t : Int) (t0 : -1125899906842624 ≤ t) (t1 : t ≤ 1125899906842624) (w' : World) (hb : Below W0.heap.size W0 w') => rcost_any (w := w') a b c d e f s tl th tn tm tc td cap t h (hp.below (Buf.then_ B0 hb)) (hz.below (Buf.then_ B0 hb)) hc hcz hcm t0 t1 n hn
  have HZ := Lib.hid (hz.below B0)
  have hW := Lib.hid B0
  have ncz : n ≤ cz := by rw [hn]; exact hcz
  have BE := Lib.hid (show best cap (wt L) (zn Z) n = bt (fun t => ck cap (wt L) (zn Z) t n) (cd (zn Z)) (2 * n) from by
    obtain ⟨m, rfl⟩ : ∃ m, n = m + 1 := ⟨n - 1, by omega⟩
    exact (bt_bst _ _ (2 * m + 1)).symm)
  obtain ⟨cf, hcf⟩ : ∃ z, z = fun t => ck cap (wt L) (zn Z) t n := ⟨_, rfl⟩
  have CC2 := Lib.hid fun (t : Int) (t0 : -1125899906842624 ≤ t) (t1 : t ≤ 1125899906842624) (w' : World) (hb : Below W0.heap.size W0 w') => show Calls Try.prog 67 #[.agg #[.int .i64 a, .int .i64 b, .int .i64 c, .int .i64 d, .int .i64 e, .int .i64 f, .int .i64 s, .slice tl tn tc, .slice th tm td, .slice (some ⟨g, 0, none⟩) n cc, .int .i64 cap], .slice (some ⟨gz, 0, none⟩) n cz, .int .i64 t] w' fun r w'' => r = .returned (.int .i64 (cf t)) ∧ Below w'.heap.size w' w'' from by rw [hcf]; exact CC.out t t0 t1 w' hb
  rw [← hcf] at BE
  have ZB := Lib.hid fun (k : Nat) (hk : k < n) => H.out.zns k (by rw [← Hn.out]; exact hk)
  have ZA := Lib.hid fun (k : Nat) (hk : k < n) (w' : World) (hb : Below W0.heap.size W0 w') => show w'.cell? ⟨gz, k * 2, none⟩ = some (.int .i64 (zn Z k).1) ∧ w'.cell? ⟨gz, k * 2 + 1, none⟩ = some (.int .i64 (zn Z k).2) from by
    have e := List.getElem?_eq_getElem (l := Z) (i := k) (by rw [H.out.nz, ← Hn.out]; exact hk)
    rw [zn_at e]; exact (HZ.out.below hb).2 k _ e
  rw [BE.out]
  have E0 : Hid (∀ k, cd (zn Z) (2 * k) = (zn Z k).1) := Lib.hid (cd_even _)
  have E1 : Hid (∀ k, cd (zn Z) (2 * k + 1) = (zn Z k).2) := Lib.hid (cd_odd _)
  generalize cd (zn Z) = en at *
  generalize zn Z = zz at *
  have BS := Lib.hid fun k => show bt cf en (k + 1) = if cf (en k) < (bt cf en k).2 ∨ (cf (en k) = (bt cf en k).2 ∧ en k < (bt cf en k).1) then (en k, cf (en k)) else bt cf en k from rfl
  clear CC BE hcf h hp hz B0 hn H hc hcz HZ
  unfold maxLen at hcm
  have ncz' : (n : Int) ≤ cz := by omega
  have BT0 := Lib.hid (show bt cf en 0 = (en 0, cf (en 0)) from rfl)
  have e00 := E0.out 0
  have zb0 := ZB.out 0 (by omega)
  go_enter Try.func48, Try.ntmps48
  go_upto_region 1 with fail
  rw [← hW0]
  clear hW0
  have C0 : Hid (∀ (w' : World), Below W0.heap.size W0 w' → Calls Try.prog 67 #[.agg #[.int .i64 a, .int .i64 b, .int .i64 c, .int .i64 d, .int .i64 e, .int .i64 f, .int .i64 s, .slice tl tn tc, .slice th tm td, .slice (some ⟨g, 0, none⟩) n cc, .int .i64 cap], .slice (some ⟨gz, 0, none⟩) n cz, .int .i64 (en 0)] w' fun r w'' => r = .returned (.int .i64 (cf (en 0))) ∧ Below w'.heap.size w' w'') := Lib.hid (CC2.out (en 0) (by rw [e00]; exact zb0.1) (by rw [e00]; exact zb0.2.1))
  have Z0 := Lib.hid fun (w' : World) (hb : Below W0.heap.size W0 w') => show w'.cell? ⟨gz, 0, none⟩ = some (.int .i64 (en 0)) from by rw [show en 0 = (zz 0).1 from e00]; exact (ZA.out 0 (by omega) w' hb).1
  have n1' : (0 : Int) < n := by omega
  clear e00 zb0
  refine Buf.region_calm W0 (by kernel_rfl) (by kernel_rfl) (Below.refl _ _) ?_
  repeat (first
    | (go_big_quiet_want; refine quiet_row 36 (.tmp 2) rfl w.heap.size rfl 36 #[.int .i64 a, .int .i64 b, .int .i64 c, .int .i64 d, .int .i64 e, .int .i64 f, .int .i64 s, .slice tl tn tc, .slice th tm td, .slice (some ⟨g, 0, none⟩) n cc, .int .i64 cap] (0, 0) _ (fun _ hC => hb hC p1.out) rfl rfl rfl ?_; go_big_quiet_on; try simp only [Act.put, List.setIfInBounds_toArray, List.set_cons_zero, List.set_cons_succ])
    | go_big_quiet_step ((intro hC; first
       | (go_at_call 67; with_reducible exact Buf.calm hC (C0.out _ hC))
       | rfl
       | (simp only [Z0.out _ hC, Result.andThen_ok]; exact ⟨trivial, rfl⟩))))
  refine wpQuiet_nil ?_
  intro w1 hb1
  have B1 := Lib.hid hb1
  clear hb1 C0 Z0
  go_wp2_with fail
  go_loopw [6, 7, 8] (fun u v i wr => ∃ (k : Nat) (x y : Int), k ≤ n ∧ i = .int .i64 k ∧ u = .int .i64 x ∧ v = .int .i64 y ∧ Hid ((x, y) = bt cf en (2 * k)) ∧ Hid (Below W0.heap.size W0 wr)) (fun _ _ i _ => ((n : Int) - intOf i).toNat)
  case atStart => exact ⟨0, en 0, cf (en 0), Nat.zero_le _, rfl, rfl, rfl, Lib.hid BT0.out.symm, B1⟩
  case round =>
    clear BT0 B1
    obtain ⟨k, x, y, hk, rfl, rfl, rfl, hxy, hbr⟩ := hrel
    by_cases hlt : k < n
    · have hlt' : (k : Int) < n := by omega
      have hlt2 : (k : Int) < cz := by omega
      obtain ⟨q1, q2, q3, q4⟩ := ZB.out k hlt
      have e0 := E0.out k
      have e1 := E1.out k
      obtain ⟨wy, hwy⟩ : ∃ wy, wy = wr := ⟨_, rfl⟩
      rw [← hwy] at hbr ⊢
      clear hwy
      have ZK := Lib.hid fun (w' : World) (h' : Below wy.heap.size wy w') => ZA.out k hlt w' (Buf.then_ hbr.out h')
      rw [← e0, ← e1] at ZK
      rw [← e0] at q1 q2
      rw [← e1] at q3 q4
      obtain ⟨z1_, hz1⟩ : ∃ z, z = en (2 * k) := ⟨_, rfl⟩
      obtain ⟨z2_, hz2⟩ : ∃ z, z = en (2 * k + 1) := ⟨_, rfl⟩
      rw [← hz1] at ZK q1 q2
      rw [← hz2] at ZK q3 q4
      obtain ⟨kx, hkx⟩ : ∃ z, z = k := ⟨_, rfl⟩
      rw [← hkx] at ZK ⊢
      have hlt3 : (kx : Int) < n := by omega
      have hkx' : (k : Int) = kx := by omega
      clear e0 e1 hlt' hlt2
      have hlt4 : (kx : Int) < cz := by omega
      rw [hkx'] at *
      replace hz1 := Lib.hid hz1
      replace hz2 := Lib.hid hz2
      replace hkx := Lib.hid hkx
      go_upto_region 5 with fail
      refine wp_region_noPanic ?_
      refine wp_region_any (by kernel_rfl) ?_
      refine Inv.wpAny_inv (fun k => false) [29, 30, 31, 32, 33, 34, 35, 36, 37, 38, 39, 40, 41] (fun w' => Below wy.heap.size wy w') (fun _ w1 w2 => Below w1.heap.size w1 w2) (fun k => ([fun v_ w_ => v_ = .slice (some ⟨gz, 0, none⟩) n cz, fun v_ w_ => v_ = .int .i64 (kx : Int), fun v_ w_ => v_ = .pointer (some ⟨gz, kx * 2, none⟩), fun v_ w_ => v_ = .pointer (some ⟨gz, kx * 2, none⟩), fun v_ w_ => v_ = .int .i64 z1_, fun v_ w_ => v_ = .slice (some ⟨gz, 0, none⟩) n cz, fun v_ w_ => v_ = .int .i64 (kx : Int), fun v_ w_ => v_ = .pointer (some ⟨gz, kx * 2, none⟩), fun v_ w_ => v_ = .pointer (some ⟨gz, kx * 2 + 1, none⟩), fun v_ w_ => v_ = .int .i64 z2_, fun v_ w_ => ∃ hh : Nat, v_ = .slice (some ⟨hh, 0, none⟩) 2 2 ∧ w_.heap[hh]? = some (.cells #[.int .i64 z1_, .int .i64 z2_] 3 (0, 0)), fun v_ w_ => v_ = .int .i64 2, fun v_ w_ => v_ = .int .i64 0] : List (Value → World → Prop)).getD k (fun _ _ => True)) _ (fun σ => by simp only [Inv.putAll, List.foldl_cons, List.foldl_nil, Act.put, List.setIfInBounds_toArray, List.set_cons_zero, List.set_cons_succ]; rfl) (by kernel_rfl) (by kernel_rfl) ?_ ((Below.refl _ _).drew) ?_ ?_ 0 #[true, true, true, true, true, true, true, true, true, true, true, true, true] (by kernel_rfl) (by kernel_rfl) ?_
      · intro j k v w1 w2 hjk hv hr
        rcases k with _ | k
        · exact hv
        rcases k with _ | k
        · exact hv
        rcases k with _ | k
        · exact hv
        rcases k with _ | k
        · exact hv
        rcases k with _ | k
        · exact hv
        rcases k with _ | k
        · exact hv
        rcases k with _ | k
        · exact hv
        rcases k with _ | k
        · exact hv
        rcases k with _ | k
        · exact hv
        rcases k with _ | k
        · exact hv
        rcases k with _ | k
        · exact by obtain ⟨h, h1, h2⟩ := hv; exact ⟨h, h1, hb hr h2⟩
        rcases k with _ | k
        · exact hv
        rcases k with _ | k
        · exact hv
        · exact hv
      · intro k t hl hd
        rcases k with _ | k
        · exact absurd hl (by decide +kernel)
        rcases k with _ | k
        · exact absurd hl (by decide +kernel)
        rcases k with _ | k
        · exact absurd hl (by decide +kernel)
        rcases k with _ | k
        · exact absurd hl (by decide +kernel)
        rcases k with _ | k
        · exact absurd hl (by decide +kernel)
        rcases k with _ | k
        · exact absurd hl (by decide +kernel)
        rcases k with _ | k
        · exact absurd hl (by decide +kernel)
        rcases k with _ | k
        · exact absurd hl (by decide +kernel)
        rcases k with _ | k
        · exact absurd hl (by decide +kernel)
        rcases k with _ | k
        · exact absurd hl (by decide +kernel)
        rcases k with _ | k
        · exact absurd hl (by decide +kernel)
        rcases k with _ | k
        · exact absurd hl (by decide +kernel)
        rcases k with _ | k
        · exact absurd hl (by decide +kernel)
        · simp at hd
      · show Inv.Steps _ _ _ _ _ _ _ _ [0, 1, 2, 3, 4, 5, 6, 7, 8, 9, 10, 11, 12]
        refine Inv.Steps.go (by decide) (by rfl) (fun σ wx hw hd K hK => ?_) ?_
        · simp only [List.getElem_toArray, List.getElem_cons_zero, List.getElem_cons_succ, Act.put, List.setIfInBounds_toArray, List.set_cons_zero, List.set_cons_succ] at hK ⊢
          go_simp
          exact hK.out _ _ hw (Below.refl _ _) (rfl)
        refine Inv.Steps.go (by decide) (by rfl) (fun σ wx hw hd K hK => ?_) ?_
        · simp only [List.getElem_toArray, List.getElem_cons_zero, List.getElem_cons_succ, Act.put, List.setIfInBounds_toArray, List.set_cons_zero, List.set_cons_succ] at hK ⊢
          go_simp
          exact hK.out _ _ hw (Below.refl _ _) (rfl)
        refine Inv.Steps.go (by decide) (by rfl) (fun σ wx hw hd K hK => ?_) ?_
        · obtain e29 : (σ 29) = .slice (some ⟨gz, 0, none⟩) n cz := hd 0 (some 29) (by kernel_rfl) (by rfl)
          obtain e30 : (σ 30) = .int .i64 (kx : Int) := hd 1 (some 30) (by kernel_rfl) (by rfl)
          simp only [List.getElem_toArray, List.getElem_cons_zero, List.getElem_cons_succ, Act.put, List.setIfInBounds_toArray, List.set_cons_zero, List.set_cons_succ, e29, e30] at hK ⊢
          go_simp
          exact hK.out _ _ hw (Below.refl _ _) (rfl)
        refine Inv.Steps.go (by decide) (by rfl) (fun σ wx hw hd K hK => ?_) ?_
        · obtain e31 : (σ 31) = .pointer (some ⟨gz, kx * 2, none⟩) := hd 2 (some 31) (by kernel_rfl) (by rfl)
          simp only [List.getElem_toArray, List.getElem_cons_zero, List.getElem_cons_succ, Act.put, List.setIfInBounds_toArray, List.set_cons_zero, List.set_cons_succ, e31] at hK ⊢
          go_simp
          exact hK.out _ _ hw (Below.refl _ _) (rfl)
        refine Inv.Steps.go (by decide) (by rfl) (fun σ wx hw hd K hK => ?_) ?_
        · obtain e32 : (σ 32) = .pointer (some ⟨gz, kx * 2, none⟩) := hd 3 (some 32) (by kernel_rfl) (by rfl)
          simp only [List.getElem_toArray, List.getElem_cons_zero, List.getElem_cons_succ, Act.put, List.setIfInBounds_toArray, List.set_cons_zero, List.set_cons_succ, e32] at hK ⊢
          obtain ⟨y1, y2⟩ := ZK.out _ hw
          go_simp
          exact hK.out _ _ hw (Below.refl _ _) (rfl)
        refine Inv.Steps.go (by decide) (by rfl) (fun σ wx hw hd K hK => ?_) ?_
        · simp only [List.getElem_toArray, List.getElem_cons_zero, List.getElem_cons_succ, Act.put, List.setIfInBounds_toArray, List.set_cons_zero, List.set_cons_succ] at hK ⊢
          go_simp
          exact hK.out _ _ hw (Below.refl _ _) (rfl)
        refine Inv.Steps.go (by decide) (by rfl) (fun σ wx hw hd K hK => ?_) ?_
        · simp only [List.getElem_toArray, List.getElem_cons_zero, List.getElem_cons_succ, Act.put, List.setIfInBounds_toArray, List.set_cons_zero, List.set_cons_succ] at hK ⊢
          go_simp
          exact hK.out _ _ hw (Below.refl _ _) (rfl)
        refine Inv.Steps.go (by decide) (by rfl) (fun σ wx hw hd K hK => ?_) ?_
        · obtain e34 : (σ 34) = .slice (some ⟨gz, 0, none⟩) n cz := hd 5 (some 34) (by kernel_rfl) (by rfl)
          obtain e35 : (σ 35) = .int .i64 (kx : Int) := hd 6 (some 35) (by kernel_rfl) (by rfl)
          simp only [List.getElem_toArray, List.getElem_cons_zero, List.getElem_cons_succ, Act.put, List.setIfInBounds_toArray, List.set_cons_zero, List.set_cons_succ, e34, e35] at hK ⊢
          go_simp
          exact hK.out _ _ hw (Below.refl _ _) (rfl)
        refine Inv.Steps.go (by decide) (by rfl) (fun σ wx hw hd K hK => ?_) ?_
        · obtain e36 : (σ 36) = .pointer (some ⟨gz, kx * 2, none⟩) := hd 7 (some 36) (by kernel_rfl) (by rfl)
          simp only [List.getElem_toArray, List.getElem_cons_zero, List.getElem_cons_succ, Act.put, List.setIfInBounds_toArray, List.set_cons_zero, List.set_cons_succ, e36] at hK ⊢
          go_simp
          exact hK.out _ _ hw (Below.refl _ _) (rfl)
        refine Inv.Steps.go (by decide) (by rfl) (fun σ wx hw hd K hK => ?_) ?_
        · obtain e37 : (σ 37) = .pointer (some ⟨gz, kx * 2 + 1, none⟩) := hd 8 (some 37) (by kernel_rfl) (by rfl)
          simp only [List.getElem_toArray, List.getElem_cons_zero, List.getElem_cons_succ, Act.put, List.setIfInBounds_toArray, List.set_cons_zero, List.set_cons_succ, e37] at hK ⊢
          obtain ⟨y1, y2⟩ := ZK.out _ hw
          go_simp
          exact hK.out _ _ hw (Below.refl _ _) (rfl)
        refine Inv.Steps.go (by decide) (by rfl) (fun σ wx hw hd K hK => ?_) ?_
        · obtain e33 : (σ 33) = .int .i64 z1_ := hd 4 (some 33) (by kernel_rfl) (by rfl)
          obtain e38 : (σ 38) = .int .i64 z2_ := hd 9 (some 38) (by kernel_rfl) (by rfl)
          simp only [List.getElem_toArray, List.getElem_cons_zero, List.getElem_cons_succ, Act.put, List.setIfInBounds_toArray, List.set_cons_zero, List.set_cons_succ, e33, e38] at hK ⊢
          go_simp
          exact hK.out _ _ (Buf.then_ hw (new_block _)) (new_block _) (⟨_, rfl, heap_alloc_new _ _⟩)
        refine Inv.Steps.go (by decide) (by rfl) (fun σ wx hw hd K hK => ?_) ?_
        · obtain ⟨hh, e39, Hh⟩ : ∃ hh : Nat, (σ 39) = .slice (some ⟨hh, 0, none⟩) 2 2 ∧ wx.heap[hh]? = some (.cells #[.int .i64 z1_, .int .i64 z2_] 3 (0, 0)) := hd 10 (some 39) (by kernel_rfl) (by rfl)
          simp only [List.getElem_toArray, List.getElem_cons_zero, List.getElem_cons_succ, Act.put, List.setIfInBounds_toArray, List.set_cons_zero, List.set_cons_succ, e39] at hK ⊢
          go_simp
          exact hK.out _ _ hw (Below.refl _ _) (rfl)
        refine Inv.Steps.go (by decide) (by rfl) (fun σ wx hw hd K hK => ?_) ?_
        · simp only [List.getElem_toArray, List.getElem_cons_zero, List.getElem_cons_succ, Act.put, List.setIfInBounds_toArray, List.set_cons_zero, List.set_cons_succ] at hK ⊢
          go_simp
          exact hK.out _ _ hw (Below.refl _ _) (rfl)
        exact Inv.Steps.nil
      · intro σ wx hw hd
        obtain ⟨hh, e39, Hh⟩ : ∃ hh : Nat, (σ 39) = .slice (some ⟨hh, 0, none⟩) 2 2 ∧ wx.heap[hh]? = some (.cells #[.int .i64 z1_, .int .i64 z2_] 3 (0, 0)) := hd 10 (some 39) (by rfl) (by rfl)
        obtain e40 : (σ 40) = .int .i64 2 := hd 11 (some 40) (by rfl) (by rfl)
        obtain e41 : (σ 41) = .int .i64 0 := hd 12 (some 41) (by rfl) (by rfl)
        simp only [e39, e40, e41]
        refine Inv.done (by kernel_rfl) (NoPanic.normal ?_)
        obtain ⟨wv, hwv⟩ : ∃ wv, wv = wx := ⟨_, rfl⟩
        rw [← hwv] at hw Hh ⊢
        have HV := Lib.hid hw
        have HH := Lib.hid Hh
        clear hwv hd hw Hh e39 e40 e41
        have B5 := Lib.hid (Buf.then_ hbr.out HV.out)
        replace hxy := Lib.hid hxy.out
        go_wp2_with fail
        go_loopw [6, 7, 41] (fun u v i wr => ∃ (j : Nat) (x y : Int), j ≤ 2 ∧ i = .int .i64 j ∧ u = .int .i64 x ∧ v = .int .i64 y ∧ Hid ((x, y) = bt cf en (2 * k + j)) ∧ Hid (Below wv.heap.size wv wr)) (fun _ _ i _ => (2 - intOf i).toNat)
        case atStart => exact ⟨0, x, y, by omega, rfl, rfl, rfl, hxy, Lib.hid (Below.refl _ _)⟩
        case round =>
          clear hxy
          obtain ⟨j, x, y, hj, rfl, rfl, rfl, hxy, hb3⟩ := hrel
          by_cases hj2 : j < 2
          · obtain ⟨t, hte, ct, tb0, tb1⟩ : ∃ t : Int, en (2 * k + j) = t ∧ wr.cell? ⟨hh, j, none⟩ = some (.int .i64 t) ∧ -1125899906842624 ≤ t ∧ t ≤ 1125899906842624 := by
              have PW := Mis.hb hb3.out HH.out
              rcases (show j = 0 ∨ j = 1 by omega) with rfl | rfl
              · exact ⟨_, hz1.out.symm, cell_of_row wr hh 0 _ _ _ PW, q1, q2⟩
              · exact ⟨_, hz2.out.symm, cell_of_row wr hh 1 _ _ _ PW, q3, q4⟩
            have hj2' : (j : Int) < 2 := by omega
            have CT : Hid (∀ (w' : World), Below W0.heap.size W0 w' → Calls Try.prog 67 #[.agg #[.int .i64 a, .int .i64 b, .int .i64 c, .int .i64 d, .int .i64 e, .int .i64 f, .int .i64 s, .slice tl tn tc, .slice th tm td, .slice (some ⟨g, 0, none⟩) n cc, .int .i64 cap], .slice (some ⟨gz, 0, none⟩) n cz, .int .i64 t] w' fun r w'' => r = .returned (.int .i64 (cf t)) ∧ Below w'.heap.size w' w'') := Lib.hid (CC2.out t tb0 tb1)
            obtain ⟨ct_, hct⟩ : ∃ z, z = cf t := ⟨_, rfl⟩
            rw [← hct] at CT
            have NX := Lib.hid (show bt cf en (2 * k + (j + 1)) = if ct_ < y ∨ (ct_ = y ∧ t < x) then (t, ct_) else (x, y) from by
              rw [show 2 * k + (j + 1) = (2 * k + j) + 1 by omega, BS.out, hte, ← hxy.out, ← hct])
            obtain ⟨a0, a1, a2, a3, a4, a5, a6, a7, a8, a9, a10⟩ := c11 (Mis.hb (Buf.then_ B5.out hb3.out) p1.out)
            replace hct := Lib.hid hct
            replace hte := Lib.hid hte
            clear hxy tb0 tb1
            go_wp2_with fail
            with_reducible refine (CT.out _ (Buf.then_ B5.out hb3.out)).mono ?_
            rintro r w5 ⟨rfl, hb5⟩
            have HB := Lib.hid (Buf.then_ hb3.out hb5)
            clear hb5 hb3 CT a0 a1 a2 a3 a4 a5 a6 a7 a8 a9 a10 ct hct hte
            rcases (show ct_ < y ∨ (ct_ = y ∧ t < x) ∨ (ct_ = y ∧ ¬ t < x) ∨ y < ct_ by omega) with c1 | ⟨c1, c2⟩ | ⟨c1, c2⟩ | c1
            · rw [if_pos (.inl c1)] at NX
              go_wp2_with fail
              go_roundw
              case rel => exact ⟨j + 1, t, ct_, by omega, by go_num, rfl, rfl, Lib.hid NX.out.symm, HB⟩
              case measure => simp [intOf]; omega
            · rw [if_pos (.inr ⟨c1, c2⟩)] at NX
              subst c1
              have d1 : (ct_ == ct_) = true := by simp
              have d2 : ¬ ct_ < ct_ := by omega
              go_wp2_with fail
              go_roundw
              case rel => exact ⟨j + 1, t, ct_, by omega, by go_num, rfl, rfl, Lib.hid NX.out.symm, HB⟩
              case measure => simp [intOf]; omega
            · rw [if_neg (by rintro (h | ⟨_, h⟩) <;> omega)] at NX
              subst c1
              have d1 : (ct_ == ct_) = true := by simp
              have d2 : ¬ ct_ < ct_ := by omega
              go_wp2_with fail
              go_roundw
              case rel => exact ⟨j + 1, x, ct_, by omega, by go_num, rfl, rfl, Lib.hid NX.out.symm, HB⟩
              case measure => simp [intOf]; omega
            · rw [if_neg (by rintro (h | ⟨h, _⟩) <;> omega)] at NX
              have d1 : (ct_ == y) = false := by rw [beq_eq_false_iff_ne]; omega
              go_wp2_with fail
              go_roundw
              case rel => exact ⟨j + 1, x, y, by omega, by go_num, rfl, rfl, Lib.hid NX.out.symm, HB⟩
              case measure => simp [intOf]; omega
          · obtain rfl : j = 2 := by omega
            have HB := Lib.hid (Buf.then_ B5.out hb3.out)
            have hxy2 := Lib.hid (show (x, y) = bt cf en (2 * (k + 1)) from by rw [show 2 * (k + 1) = 2 * k + 2 by omega]; exact hxy.out)
            go_wp2_with fail
            go_roundw
            case rel => exact ⟨k + 1, x, y, by omega, by rw [hkx.out]; go_num, rfl, rfl, hxy2, HB⟩
            case measure => simp [intOf]; omega
    · obtain rfl : k = n := by omega
      go_wp2_with fail
      go_ret2
      exact ⟨(by rw [← hxy.out]; rfl), Buf.then_ hW.out hbr.out⟩
end Mis
end Go.Proofs.Ytldgihlhioeipaa

/- The reference of layer 27: Validate, Zones. -/
set_option linter.unusedVariables false
set_option linter.unusedSimpArgs false
namespace Go.Proofs.Ytldgihlhioeipaa
open Go.RowKit Qt
namespace Mis
set_option maxHeartbeats 8000000 in
set_option maxRecDepth 100000 in
theorem rvalidate_any {w : World} {a b c d e f s : Int} {b1 b2 n g nl cc : Nat} {lo hi : List Int} {L : List Ph} {cap : Int} (R : Rg a b c d e f) (W : Bound.Wide w s b1 b2 n lo hi) (hL : PhAllS L) (n1 : 1 ≤ L.length) (n9 : L.length ≤ 64) (c0 : 1 ≤ cap) (c9 : cap ≤ 2000) (hp : PhR w g L) (hn : nl = L.length) (hc : nl ≤ cc) (c1 c2 : Nat) :
    Calls Try.prog 39 #[.agg #[.int .i64 a, .int .i64 b, .int .i64 c, .int .i64 d, .int .i64 e, .int .i64 f, .int .i64 s, .slice (some ⟨b1, 0, none⟩) n c1, .slice (some ⟨b2, 0, none⟩) n c2, .slice (some ⟨g, 0, none⟩) nl cc, .int .i64 cap]] w fun r w' => r = .returned (.int .i64 0) ∧ Below w.heap.size w w' := by
  have nl1 : 1 ≤ nl := by omega
  have nl9 : nl ≤ 64 := by omega
  have Hn := Lib.hid hn
  obtain ⟨W0, hW0⟩ : ∃ wz, wz = w.alloc (.cells #[.int .i64 a, .int .i64 b, .int .i64 c, .int .i64 d, .int .i64 e, .int .i64 f, .int .i64 s, .slice (some ⟨b1, 0, none⟩) n c1, .slice (some ⟨b2, 0, none⟩) n c2, .slice (some ⟨g, 0, none⟩) nl cc, .int .i64 cap] 36) := ⟨_, rfl⟩
  have B0 : Below w.heap.size w W0 := by rw [hW0]; exact new_block _
  have p1 := Lib.hid (show W0.heap[w.heap.size]? = some (.cells #[.int .i64 a, .int .i64 b, .int .i64 c, .int .i64 d, .int .i64 e, .int .i64 f, .int .i64 s, .slice (some ⟨b1, 0, none⟩) n c1, .slice (some ⟨b2, 0, none⟩) n c2, .slice (some ⟨g, 0, none⟩) nl cc, .int .i64 cap] 36 (0, 0)) by rw [hW0]; exact heap_alloc_new w _)
  have WW := Lib.hid (W.below B0)
  have HP := Lib.hid (hp.below B0)
  have hW := Lib.hid B0
  have VB := Lib.hid fun w' => Bound.rvb_of R.bv w'
  have V := Lib.hid fun (w' : World) (hb : Below W0.heap.size W0 w') => Trav.rvalidate_yes s b1 b2 n c1 c2 lo hi w' (WW.out.below hb).tv
  have IV := Lib.hid fun (q : Ph) (hq : PhS q) (w' : World) (hb : Below W0.heap.size W0 w') => Bound.rbox_int s b1 b2 n c1 c2 lo hi a b c d e f q.x q.y q.z w' (WW.out.below hb) R.bv hq.v.pv (R.far hq)
  have HL := Lib.hid hL
  clear W hp hn B0 hL R n1 n9
  go_enter Try.func39, Try.ntmps39
  go_upto_region 1 with fail
  rw [← hW0]
  clear hW0
  obtain ⟨a0, a1, a2, a3, a4, a5, a6, a7, a8, a9, a10⟩ := c11 p1.out
  go_wp2_with fail
  with_reducible refine (VB.out _).mono ?_
  rintro r w1 ⟨rfl, b1'⟩
  have B1 := Lib.hid b1'
  clear b1' a0 a1 a2 a3 a4 a5 a6 a7 a8 a9 a10
  obtain ⟨a0, a1, a2, a3, a4, a5, a6, a7, a8, a9, a10⟩ := c11 (hb B1.out p1.out)
  go_wp2_with fail
  with_reducible refine (V.out _ B1.out).mono ?_
  rintro r w2 ⟨rfl, b2'⟩
  have B2 := Lib.hid (Buf.then_ B1.out b2')
  clear b2' B1 a0 a1 a2 a3 a4 a5 a6 a7 a8 a9 a10
  obtain ⟨a0, a1, a2, a3, a4, a5, a6, a7, a8, a9, a10⟩ := c11 (hb B2.out p1.out)
  have m0 : ((nl : Int) == 0) = false := by rw [beq_eq_false_iff_ne]; omega
  have m1 : ¬ ((64 : Int) < nl) := by omega
  have m2 : (1 : Int) ≤ nl := by omega
  have m3 : (nl : Int) ≤ 64 := by omega
  go_wp2_with fail
  go_loopw [3] (fun i wr => ∃ k : Nat, k ≤ nl ∧ i = .int .i64 k ∧ Hid (Below W0.heap.size W0 wr)) (fun i _ => ((nl : Int) - intOf i).toNat)
  case atStart => exact ⟨0, Nat.zero_le _, rfl, B2⟩
  case round =>
    clear a0 a1 a2 a3 a4 a5 a6 a7 a8 a9 a10 B2
    obtain ⟨k, hk, rfl, hbr⟩ := hrel
    obtain ⟨a0, a1, a2, a3, a4, a5, a6, a7, a8, a9, a10⟩ := c11 (hb hbr.out p1.out)
    by_cases hlt : k < nl
    · have hlt' : (k : Int) < nl := by omega
      obtain ⟨q, hq⟩ : ∃ q, L[k]? = some q := ⟨L[k]'(by rw [← Hn.out]; exact hlt), List.getElem?_eq_getElem _⟩
      have VP := Lib.hid fun w' => Bound.rvalidPhase_yes q.x q.y q.z q.E q.L q.W (HL.out k q hq).v w'
      have I1 := Lib.hid (IV.out q (HL.out k q hq))
      obtain ⟨f0, f1, f2, f3, f4, f5⟩ := (HP.out.below hbr.out).2 k _ hq
      generalize Bound.LO s lo (Geo.near3 a b c d e f q.x q.y q.z) = v1 at *
      generalize Bound.HI s hi (Geo.far3 a b c d e f q.x q.y q.z) = v2 at *
      obtain ⟨qx, qy, qz, qE, qL, qW⟩ := q
      dsimp only at VP I1 f0 f1 f2 f3 f4 f5
      go_wp2_with fail
      with_reducible refine (VP.out _).mono ?_
      rintro r w5 ⟨rfl, hb5⟩
      obtain ⟨wv, hwv⟩ : ∃ wv, wv = w5 := ⟨_, rfl⟩
      rw [← hwv] at hb5 ⊢
      have B5 := Lib.hid (Buf.then_ hbr.out hb5)
      clear hb5 hwv hbr VP a0 a1 a2 a3 a4 a5 a6 a7 a8 a9 a10 f0 f1 f2 f3 f4 f5
      have E1 := Lib.hid fun w' (h' : Below wv.heap.size wv w') => c11 (Mis.hb (Buf.then_ B5.out h') p1.out)
      have E2 := Lib.hid fun w' (h' : Below wv.heap.size wv w') => (HP.out.below (Buf.then_ B5.out h')).2 k _ hq
      dsimp only at E2
      replace hq := Lib.hid hq
      go_wp2_with fail
      refine Buf.region_calm wv (by kernel_rfl) (by kernel_rfl) (Below.refl _ _) ?_
      repeat (go_big_quiet_step ((intro hC; first
        | (go_at_call 61; with_reducible exact Buf.calm hC (I1.out _ (Buf.then_ B5.out hC)))
        | rfl
        | (obtain ⟨a0, a1, a2, a3, a4, a5, a6, a7, a8, a9, a10⟩ := E1.out _ hC; obtain ⟨f0, f1, f2, f3, f4, f5⟩ := E2.out _ hC; simp only [a0, a1, a2, a3, a4, a5, a6, a7, a8, a9, f0, f1, f2, Result.andThen_ok]; first | exact ⟨trivial, rfl⟩ | rfl))))
      refine wpQuiet_nil ?_
      intro w6 hb6
      have B6 := Lib.hid (Buf.then_ B5.out hb6)
      clear hb6 B5 E1 E2 I1 hq
      go_wp2_with fail
      go_roundw
      case rel => exact ⟨k + 1, by omega, by go_num, B6⟩
      case measure => simp [intOf]; omega
    · obtain rfl : k = nl := by omega
      go_wp2_with fail
      go_ret
      exact ⟨rfl, Buf.then_ hW.out hbr.out⟩
end Mis
end Go.Proofs.Ytldgihlhioeipaa

/- The reference of layer 27: Zones. -/
set_option linter.unusedVariables false
set_option linter.unusedSimpArgs false
namespace Go.Proofs.Ytldgihlhioeipaa
open Go.RowKit Qt
namespace Mis
set_option maxHeartbeats 8000000 in
set_option maxRecDepth 100000 in
theorem rzones_any {w : World} {a b c d e f s : Int} {b1 b2 n g nl cc : Nat} {lo hi : List Int} {L : List Ph} {cap : Int} (R : Rg a b c d e f) (W : Bound.Wide w s b1 b2 n lo hi) (hL : PhAllS L) (n1 : 1 ≤ L.length) (n9 : L.length ≤ 64) (c0 : 1 ≤ cap) (c9 : cap ≤ 2000) (hp : PhR w g L) (hn : nl = L.length) (hc : nl ≤ cc) (c1 c2 : Nat) (p1 p2 p3 q1 q2 q3 : Int) (S : Sub a b c d e f p1 p2 p3 q1 q2 q3) :
    Calls Try.prog 46 #[.agg #[.int .i64 a, .int .i64 b, .int .i64 c, .int .i64 d, .int .i64 e, .int .i64 f, .int .i64 s, .slice (some ⟨b1, 0, none⟩) n c1, .slice (some ⟨b2, 0, none⟩) n c2, .slice (some ⟨g, 0, none⟩) nl cc, .int .i64 cap], .agg #[.int .i64 p1, .int .i64 p2, .int .i64 p3, .int .i64 q1, .int .i64 q2, .int .i64 q3]] w fun r w' => (∃ v, r = .returned (.tuple #[v, .int .i64 0]) ∧ OwnZ w' w.heap.size v (L.map (zfun s lo hi p1 p2 p3 q1 q2 q3))) ∧ Below w.heap.size w w' := by
  obtain ⟨i0, hi0, hz0, hz1, hz2⟩ : ∃ i, Try.prog.info? 100 = some i ∧ i.zero = some (.agg #[.int .i64 0, .int .i64 0]) ∧ i.size = 2 ∧ i.bytes = 16 := ⟨_, rfl, by kernel_rfl, by kernel_rfl, by kernel_rfl⟩
  have nl1 : 1 ≤ nl := by omega
  have nl9 : nl ≤ 64 := by omega
  have Hn := Lib.hid hn
  obtain ⟨W0, hW0⟩ : ∃ wz, wz = (w.alloc (.cells #[.int .i64 a, .int .i64 b, .int .i64 c, .int .i64 d, .int .i64 e, .int .i64 f, .int .i64 s, .slice (some ⟨b1, 0, none⟩) n c1, .slice (some ⟨b2, 0, none⟩) n c2, .slice (some ⟨g, 0, none⟩) nl cc, .int .i64 cap] 36)).alloc (.cells #[.int .i64 p1, .int .i64 p2, .int .i64 p3, .int .i64 q1, .int .i64 q2, .int .i64 q3] 26) := ⟨_, rfl⟩
  have B0 : Below w.heap.size w W0 := by rw [hW0]; exact Buf.then_ (new_block _) (new_block _)
  have k1 := Lib.hid (show W0.heap[w.heap.size]? = some (.cells #[.int .i64 a, .int .i64 b, .int .i64 c, .int .i64 d, .int .i64 e, .int .i64 f, .int .i64 s, .slice (some ⟨b1, 0, none⟩) n c1, .slice (some ⟨b2, 0, none⟩) n c2, .slice (some ⟨g, 0, none⟩) nl cc, .int .i64 cap] 36 (0, 0)) by rw [hW0]; exact Geo.blk_alloc (Geo.blk_new w _) _)
  have k2 := Lib.hid (show W0.heap[w.heap.size + 1]? = some (.cells #[.int .i64 p1, .int .i64 p2, .int .i64 p3, .int .i64 q1, .int .i64 q2, .int .i64 q3] 26 (0, 0)) by rw [hW0]; exact Geo.blk_new1 w _ _)
  obtain ⟨w0s, hw0s⟩ : ∃ z, z = w.heap.size := ⟨_, rfl⟩
  obtain ⟨w1s, hw1s⟩ : ∃ z, z = w.heap.size + 1 := ⟨_, rfl⟩
  have HP := Lib.hid (hp.below B0)
  have hW := Lib.hid B0
  have hsz0 : w.heap.size + 2 ≤ W0.heap.size := by rw [hW0]; simp
  have V := Lib.hid fun (w' : World) (h' : Below W0.heap.size W0 w') => rvalidate_any (w := w') R (W.below (Buf.then_ B0 h')) hL n1 n9 c0 c9 (hp.below (Buf.then_ B0 h')) hn hc c1 c2
  have WI := Lib.hid fun w' => (show Geo.wiV p1 p2 p3 q1 q2 q3 a b c d e f = true by unfold Geo.wiV; rw [Geo.bvB_of (S.bv R.bv), Geo.bvB_of R.bv, S.wi]; rfl) ▸ Geo.rwithin_any p1 p2 p3 q1 q2 q3 a b c d e f w'
  have ZC := Lib.hid fun (q : Ph) (hq : PhS q) (w' : World) (h' : Below W0.heap.size W0 w') => Bound.rzone_bx s b1 b2 n c1 c2 lo hi p1 p2 p3 q1 q2 q3 q.x q.y q.z q.E q.L q.W w' (W.below (Buf.then_ B0 h')) (S.bv R.bv) hq.v (Int.le_trans (S.far _ _ _) (R.far hq))
  have HL := Lib.hid hL
  have O0 := Lib.hid (show OwnZ W0 W0.heap.size (.slice none 0 0) ((L.take 0).map (zfun s lo hi p1 p2 p3 q1 q2 q3)) from ⟨rfl, .inl ⟨rfl, rfl⟩⟩)
  clear W hp hn B0 hL R n1 n9 S
  go_enter Try.func46, Try.ntmps46
  go_upto_region 1 with fail
  rw [← hW0, ← hw1s, ← hw0s]
  rw [← hw1s] at k2
  rw [← hw0s] at k1
  replace hw1s := Lib.hid hw1s
  replace hw0s := Lib.hid hw0s
  clear hW0
  obtain ⟨a0, a1, a2, a3, a4, a5, a6, a7, a8, a9, a10⟩ := c11 k1.out
  go_wp2_with fail
  with_reducible refine (V.out _ (Below.refl _ _)).mono ?_
  rintro r w1 ⟨rfl, b1'⟩
  have B1 := Lib.hid b1'
  clear b1' a0 a1 a2 a3 a4 a5 a6 a7 a8 a9 a10
  obtain ⟨a0, a1, a2, a3, a4, a5, a6, a7, a8, a9, a10⟩ := c11 (hb B1.out k1.out)
  obtain ⟨u1, u2, u3, u4, u5, u6⟩ := Geo.cells6 (hb B1.out k2.out)
  go_wp2_with fail
  with_reducible refine (WI.out _).mono ?_
  rintro r w2 ⟨rfl, b2'⟩
  have B2 := Lib.hid (Buf.then_ B1.out b2')
  have OO := Lib.hid (own_below O0.out B2.out)
  clear b2' B1 a0 a1 a2 a3 a4 a5 a6 a7 a8 a9 a10 u1 u2 u3 u4 u5 u6 V WI O0
  go_wp2_with fail
  go_loopw [7, 8] (fun u i wr => ∃ (k : Nat) (ad : Option Addr) (kk ck : Nat), k ≤ nl ∧ i = .int .i64 k ∧ u = .slice ad kk ck ∧ Hid (kk = k) ∧ Hid (wr.ownsRow W0.heap.size 100 2 (.slice ad kk ck) kk (cellsZ ((L.take k).map (zfun s lo hi p1 p2 p3 q1 q2 q3)))) ∧ Hid (Below W0.heap.size W0 wr)) (fun _ i _ => ((nl : Int) - intOf i).toNat)
  case atStart => exact ⟨0, none, 0, 0, Nat.zero_le _, rfl, rfl, Lib.hid rfl, OO, B2⟩
  case round =>
    clear OO B2
    obtain ⟨k, ad, kk, ckk, hk, rfl, rfl, hkk, O, hbr⟩ := hrel
    obtain ⟨a0, a1, a2, a3, a4, a5, a6, a7, a8, a9, a10⟩ := c11 (hb hbr.out k1.out)
    by_cases hlt : k < nl
    · have hlt' : (k : Int) < nl := by omega
      have hk9 : kk ≤ 64 := by rw [hkk.out]; omega
      obtain ⟨q, hq⟩ : ∃ q, L[k]? = some q := ⟨L[k]'(by rw [← Hn.out]; exact hlt), List.getElem?_eq_getElem _⟩
      have Z1 := Lib.hid (ZC.out q (HL.out k q hq))
      have hsn : Hid (cellsZ ((L.take (k + 1)).map (zfun s lo hi p1 p2 p3 q1 q2 q3)) = cellsZ ((L.take k).map (zfun s lo hi p1 p2 p3 q1 q2 q3)) ++ [.int .i64 (zfun s lo hi p1 p2 p3 q1 q2 q3 q).1, .int .i64 (zfun s lo hi p1 p2 p3 q1 q2 q3 q).2]) := Lib.hid (by
        obtain ⟨hk', rfl⟩ := List.getElem?_eq_some_iff.1 hq
        rw [List.take_succ_eq_append_getElem hk', List.map_append, ← cellsZ_snoc]; rfl)
      have ez : Hid (zfun s lo hi p1 p2 p3 q1 q2 q3 q = (q.E - Bound.HI s hi (Geo.far3 p1 p2 p3 q1 q2 q3 q.x q.y q.z), q.L - Bound.LO s lo (Geo.near3 p1 p2 p3 q1 q2 q3 q.x q.y q.z))) := Lib.hid rfl
      rw [ez.out] at hsn
      dsimp only at hsn
      clear ez
      generalize q.E - Bound.HI s hi (Geo.far3 p1 p2 p3 q1 q2 q3 q.x q.y q.z) = z1 at *
      generalize q.L - Bound.LO s lo (Geo.near3 p1 p2 p3 q1 q2 q3 q.x q.y q.z) = z2 at *
      obtain ⟨wy, hwy⟩ : ∃ wy, wy = wr := ⟨_, rfl⟩
      rw [← hwy] at hbr O a0 a1 a2 a3 a4 a5 a6 a7 a8 a9 a10 ⊢
      clear hwy
      have E1 := Lib.hid fun w' (h' : Below wy.heap.size wy w') => c11 (Mis.hb (Buf.then_ hbr.out h') k1.out)
      have E2 := Lib.hid fun w' (h' : Below wy.heap.size wy w') => (HP.out.below (Buf.then_ hbr.out h')).2 k _ hq
      have E3 := Lib.hid fun w' (h' : Below wy.heap.size wy w') => Mis.hb (Buf.then_ hbr.out h') k2.out
      obtain ⟨qx, qy, qz, qE, qL, qW⟩ := q
      dsimp only at E2 Z1
      replace hq := Lib.hid hq
      obtain ⟨kx, hkx⟩ : ∃ z, z = k := ⟨_, rfl⟩
      have hkx' : (k : Int) = kx := by omega
      have hlt3 : (kx : Int) < nl := by omega
      have hlt4 : (kx : Int) < cc := by omega
      rw [← hkx] at E2
      clear hlt'
      go_upto_region 10 with fail
      rw [hkx']
      replace hkx := Lib.hid hkx
      clear hkx' a0 a1 a2 a3 a4 a5 a6 a7 a8 a9 a10
      refine wp_region_noPanic ?_
      refine wp_region_any (by kernel_rfl) ?_
      refine Inv.wpAny_inv2 (fun k => k == 13 || k == 14) 11 99 [29, 30, 31, 32, 33, 34, 35, 36, 37, 28, 38, 39, 9] (fun w' => Below wy.heap.size wy w') (fun _ w1 w2 => Below w1.heap.size w1 w2) (fun k => ([fun v_ w_ => v_ = .pointer (some ⟨w0s, 6, none⟩), fun v_ w_ => v_ = .agg #[.int .i64 s, .slice (some ⟨b1, 0, none⟩) n c1, .slice (some ⟨b2, 0, none⟩) n c2], fun v_ w_ => v_ = .agg #[.int .i64 p1, .int .i64 p2, .int .i64 p3, .int .i64 q1, .int .i64 q2, .int .i64 q3], fun v_ w_ => v_ = .pointer (some ⟨w0s, 9, none⟩), fun v_ w_ => v_ = .slice (some ⟨g, 0, none⟩) nl cc, fun v_ w_ => v_ = .int .i64 (kx : Int), fun v_ w_ => v_ = .pointer (some ⟨g, kx * 6, none⟩), fun v_ w_ => v_ = .agg #[.int .i64 qx, .int .i64 qy, .int .i64 qz, .int .i64 qE, .int .i64 qL, .int .i64 qW], fun v_ w_ => v_ = .tuple #[.agg #[.int .i64 z1, .int .i64 z2], .int .i64 0], fun v_ w_ => v_ = .tuple #[.agg #[.int .i64 z1, .int .i64 z2], .int .i64 0], fun v_ w_ => v_ = .agg #[.int .i64 z1, .int .i64 z2], fun v_ w_ => v_ = .int .i64 0, fun v_ w_ => ∃ hh : Nat, v_ = .pointer (some ⟨hh, 0, none⟩) ∧ wy.heap.size ≤ hh ∧ w_.heap[hh]? = some (.cells #[.int .i64 0, .int .i64 0] 100 (0, 0)), fun v_ w_ => True, fun v_ w_ => True] : List (Value → World → Prop)).getD k (fun _ _ => True)) _ (fun σ => by simp only [Inv.putAll, List.foldl_cons, List.foldl_nil, Act.put, List.setIfInBounds_toArray, List.set_cons_zero, List.set_cons_succ]; rfl) (by kernel_rfl) (by kernel_rfl) (by decide) ?_ ((Below.refl _ _).drew) ?_ ?_ (fun b1 b2 => cond b1 2 3) (fun b1 b2 => #[true, true, true, true, true, true, true, true, true, true, true, b1, true, false, false]) (by intro b1 b2; cases b1 <;> cases b2 <;> kernel_rfl) (by intro b1 b2; cases b1 <;> cases b2 <;> kernel_rfl) (by exact ⟨rfl, rfl⟩) ?_
      · intro j k v w1 w2 hjk hv hr
        rcases k with _ | k
        · exact hv
        rcases k with _ | k
        · exact hv
        rcases k with _ | k
        · exact hv
        rcases k with _ | k
        · exact hv
        rcases k with _ | k
        · exact hv
        rcases k with _ | k
        · exact hv
        rcases k with _ | k
        · exact hv
        rcases k with _ | k
        · exact hv
        rcases k with _ | k
        · exact hv
        rcases k with _ | k
        · exact hv
        rcases k with _ | k
        · exact hv
        rcases k with _ | k
        · exact hv
        rcases k with _ | k
        · exact by obtain ⟨h, h1, h2, h3⟩ := hv; exact ⟨h, h1, h2, hb hr h3⟩
        rcases k with _ | k
        · exact hv
        rcases k with _ | k
        · exact hv
        · exact hv
      · intro k t hl hd
        rcases k with _ | k
        · exact absurd hl (by decide +kernel)
        rcases k with _ | k
        · exact absurd hl (by decide +kernel)
        rcases k with _ | k
        · exact absurd hl (by decide +kernel)
        rcases k with _ | k
        · exact absurd hl (by decide +kernel)
        rcases k with _ | k
        · exact absurd hl (by decide +kernel)
        rcases k with _ | k
        · exact absurd hl (by decide +kernel)
        rcases k with _ | k
        · exact absurd hl (by decide +kernel)
        rcases k with _ | k
        · exact absurd hl (by decide +kernel)
        rcases k with _ | k
        · exact absurd hl (by decide +kernel)
        rcases k with _ | k
        · exact absurd hl (by decide +kernel)
        rcases k with _ | k
        · exact absurd hl (by decide +kernel)
        rcases k with _ | k
        · exact absurd hl (by decide +kernel)
        rcases k with _ | k
        · exact absurd hl (by decide +kernel)
        rcases k with _ | k
        · exact absurd hl (by decide +kernel)
        rcases k with _ | k
        · exact absurd hl (by decide +kernel)
        · simp at hd
      · show Inv.Steps _ _ _ _ _ _ _ _ [0, 1, 2, 3, 4, 5, 6, 7, 8, 9, 10, 11, 12]
        refine Inv.Steps.go (by decide) (by rfl) (fun σ wx hw hd K hK => ?_) ?_
        · simp only [List.getElem_toArray, List.getElem_cons_zero, List.getElem_cons_succ, Act.put, List.setIfInBounds_toArray, List.set_cons_zero, List.set_cons_succ] at hK ⊢
          go_simp
          exact hK.out _ _ hw (Below.refl _ _) (rfl)
        refine Inv.Steps.go (by decide) (by rfl) (fun σ wx hw hd K hK => ?_) ?_
        · obtain e29 : (σ 29) = .pointer (some ⟨w0s, 6, none⟩) := hd 0 (some 29) (by kernel_rfl) (by rfl)
          simp only [List.getElem_toArray, List.getElem_cons_zero, List.getElem_cons_succ, Act.put, List.setIfInBounds_toArray, List.set_cons_zero, List.set_cons_succ, e29] at hK ⊢
          obtain ⟨a0, a1, a2, a3, a4, a5, a6, a7, a8, a9, a10⟩ := E1.out _ hw
          go_simp
          exact hK.out _ _ hw (Below.refl _ _) (rfl)
        refine Inv.Steps.go (by decide) (by rfl) (fun σ wx hw hd K hK => ?_) ?_
        · simp only [List.getElem_toArray, List.getElem_cons_zero, List.getElem_cons_succ, Act.put, List.setIfInBounds_toArray, List.set_cons_zero, List.set_cons_succ] at hK ⊢
          have hx := E3.out _ hw
          refine wp_load_row 26 (.tmp 3) rfl w1s rfl 26 #[.int .i64 p1, .int .i64 p2, .int .i64 p3, .int .i64 q1, .int .i64 q2, .int .i64 q3] (0, 0) _ hx rfl rfl rfl ?_
          simp only [Act.put, List.setIfInBounds_toArray, List.set_cons_zero, List.set_cons_succ]
          exact hK.out _ _ hw (Below.refl _ _) (rfl)
        refine Inv.Steps.go (by decide) (by rfl) (fun σ wx hw hd K hK => ?_) ?_
        · simp only [List.getElem_toArray, List.getElem_cons_zero, List.getElem_cons_succ, Act.put, List.setIfInBounds_toArray, List.set_cons_zero, List.set_cons_succ] at hK ⊢
          go_simp
          exact hK.out _ _ hw (Below.refl _ _) (rfl)
        refine Inv.Steps.go (by decide) (by rfl) (fun σ wx hw hd K hK => ?_) ?_
        · obtain e32 : (σ 32) = .pointer (some ⟨w0s, 9, none⟩) := hd 3 (some 32) (by kernel_rfl) (by rfl)
          simp only [List.getElem_toArray, List.getElem_cons_zero, List.getElem_cons_succ, Act.put, List.setIfInBounds_toArray, List.set_cons_zero, List.set_cons_succ, e32] at hK ⊢
          obtain ⟨a0, a1, a2, a3, a4, a5, a6, a7, a8, a9, a10⟩ := E1.out _ hw
          go_simp
          exact hK.out _ _ hw (Below.refl _ _) (rfl)
        refine Inv.Steps.go (by decide) (by rfl) (fun σ wx hw hd K hK => ?_) ?_
        · simp only [List.getElem_toArray, List.getElem_cons_zero, List.getElem_cons_succ, Act.put, List.setIfInBounds_toArray, List.set_cons_zero, List.set_cons_succ] at hK ⊢
          go_simp
          exact hK.out _ _ hw (Below.refl _ _) (rfl)
        refine Inv.Steps.go (by decide) (by rfl) (fun σ wx hw hd K hK => ?_) ?_
        · obtain e33 : (σ 33) = .slice (some ⟨g, 0, none⟩) nl cc := hd 4 (some 33) (by kernel_rfl) (by rfl)
          obtain e34 : (σ 34) = .int .i64 (kx : Int) := hd 5 (some 34) (by kernel_rfl) (by rfl)
          simp only [List.getElem_toArray, List.getElem_cons_zero, List.getElem_cons_succ, Act.put, List.setIfInBounds_toArray, List.set_cons_zero, List.set_cons_succ, e33, e34] at hK ⊢
          go_simp
          exact hK.out _ _ hw (Below.refl _ _) (rfl)
        refine Inv.Steps.go (by decide) (by rfl) (fun σ wx hw hd K hK => ?_) ?_
        · obtain e35 : (σ 35) = .pointer (some ⟨g, kx * 6, none⟩) := hd 6 (some 35) (by kernel_rfl) (by rfl)
          simp only [List.getElem_toArray, List.getElem_cons_zero, List.getElem_cons_succ, Act.put, List.setIfInBounds_toArray, List.set_cons_zero, List.set_cons_succ, e35] at hK ⊢
          obtain ⟨f0, f1, f2, f3, f4, f5⟩ := E2.out _ hw
          go_simp
          exact hK.out _ _ hw (Below.refl _ _) (rfl)
        refine Inv.Steps.go (by decide) (by rfl) (fun σ wx hw hd K hK => ?_) ?_
        · obtain e30 : (σ 30) = .agg #[.int .i64 s, .slice (some ⟨b1, 0, none⟩) n c1, .slice (some ⟨b2, 0, none⟩) n c2] := hd 1 (some 30) (by kernel_rfl) (by rfl)
          obtain e31 : (σ 31) = .agg #[.int .i64 p1, .int .i64 p2, .int .i64 p3, .int .i64 q1, .int .i64 q2, .int .i64 q3] := hd 2 (some 31) (by kernel_rfl) (by rfl)
          obtain e36 : (σ 36) = .agg #[.int .i64 qx, .int .i64 qy, .int .i64 qz, .int .i64 qE, .int .i64 qL, .int .i64 qW] := hd 7 (some 36) (by kernel_rfl) (by rfl)
          simp only [List.getElem_toArray, List.getElem_cons_zero, List.getElem_cons_succ, Act.put, List.setIfInBounds_toArray, List.set_cons_zero, List.set_cons_succ, e30, e31, e36] at hK ⊢
          go_simp
          go_at_call 66
          refine (Z1.out _ (Buf.then_ hbr.out hw)).mono ?_
          rintro e_ w_ ⟨rfl, hb_⟩
          dsimp only
          exact hK.out _ _ (Buf.then_ hw hb_) hb_ (rfl)
        refine Inv.Steps.go (by decide) (by rfl) (fun σ wx hw hd K hK => ?_) ?_
        · obtain e37 : (σ 37) = .tuple #[.agg #[.int .i64 z1, .int .i64 z2], .int .i64 0] := hd 8 (some 37) (by kernel_rfl) (by rfl)
          simp only [List.getElem_toArray, List.getElem_cons_zero, List.getElem_cons_succ, Act.put, List.setIfInBounds_toArray, List.set_cons_zero, List.set_cons_succ, e37] at hK ⊢
          go_simp
          exact hK.out _ _ hw (Below.refl _ _) (rfl)
        refine Inv.Steps.go (by decide) (by rfl) (fun σ wx hw hd K hK => ?_) ?_
        · obtain e28 : (σ 28) = .tuple #[.agg #[.int .i64 z1, .int .i64 z2], .int .i64 0] := hd 9 (some 28) (by kernel_rfl) (by rfl)
          simp only [List.getElem_toArray, List.getElem_cons_zero, List.getElem_cons_succ, Act.put, List.setIfInBounds_toArray, List.set_cons_zero, List.set_cons_succ, e28] at hK ⊢
          go_simp
          exact hK.out _ _ hw (Below.refl _ _) (rfl)
        refine Inv.Steps.go (by decide) (by rfl) (fun σ wx hw hd K hK => ?_) ?_
        · obtain e28 : (σ 28) = .tuple #[.agg #[.int .i64 z1, .int .i64 z2], .int .i64 0] := hd 9 (some 28) (by kernel_rfl) (by rfl)
          simp only [List.getElem_toArray, List.getElem_cons_zero, List.getElem_cons_succ, Act.put, List.setIfInBounds_toArray, List.set_cons_zero, List.set_cons_succ, e28] at hK ⊢
          go_simp
          exact hK.out _ _ hw (Below.refl _ _) (rfl)
        refine Inv.Steps.go (by decide) (by rfl) (fun σ wx hw hd K hK => ?_) ?_
        · simp only [List.getElem_toArray, List.getElem_cons_zero, List.getElem_cons_succ, Act.put, List.setIfInBounds_toArray, List.set_cons_zero, List.set_cons_succ] at hK ⊢
          go_simp
          exact hK.out _ _ (Buf.then_ hw (new_block _)) (new_block _) (⟨_, rfl, hw.size, heap_alloc_new _ _⟩)
        exact Inv.Steps.nil
      · intro b1 b2 σ wx hw hd
        cases b1
        · obtain e38 : (σ 38) = .agg #[.int .i64 z1, .int .i64 z2] := hd 10 (some 38) (by kernel_rfl) (by decide) (fun h => absurd h (by decide)) (by rfl)
          obtain ⟨hh, e9, hge, Hh⟩ : ∃ hh : Nat, (σ 9) = .pointer (some ⟨hh, 0, none⟩) ∧ wy.heap.size ≤ hh ∧ wx.heap[hh]? = some (.cells #[.int .i64 0, .int .i64 0] 100 (0, 0)) := hd 12 (some 9) (by kernel_rfl) (by decide) (fun h => absurd h (by decide)) (by rfl)
          have H9 : (σ 28) = .tuple #[.agg #[.int .i64 z1, .int .i64 z2], .int .i64 0] := hd 9 (some 28) (by kernel_rfl) (by decide) (fun h => absurd h (by decide)) (by rfl)
          simp only [e9, e38, H9]
          refine Inv.take (i := 11) (v := .int .i64 0) (by decide) rfl (by kernel_rfl) (by kernel_rfl) (by kernel_rfl) (fun _ _ _ h => h) (by rfl) (fun w' => ?_) ?_
          · simp only [List.getElem_toArray, List.getElem_cons_zero, List.getElem_cons_succ]
            go_simp
          try simp only [Act.put, List.setIfInBounds_toArray, List.set_cons_zero, List.set_cons_succ]
          obtain ⟨k0, k1_⟩ := cell2 Hh
          have f0 := frozen_of_row wx hh 0 _ _ Hh
          have f1 := frozen_of_row wx hh 1 _ _ Hh
          refine Inv.one (i := 13) (by decide) (by kernel_rfl) (by rfl) (fun K hK => ?_)
          simp only [List.getElem_toArray, List.getElem_cons_zero, List.getElem_cons_succ, Act.put, List.setIfInBounds_toArray, List.set_cons_zero, List.set_cons_succ] at hK ⊢
          go_simp
          refine hK.out _ _ ?_
          clear hK K
          refine Inv.take (i := 14) (v := .int .i64 0) (by decide) rfl (by kernel_rfl) (by kernel_rfl) (by kernel_rfl) (fun _ _ _ h => h) (by rfl) (fun w' => ?_) ?_
          · simp only [List.getElem_toArray, List.getElem_cons_zero, List.getElem_cons_succ]
            go_simp
          try simp only [Act.put, List.setIfInBounds_toArray, List.set_cons_zero, List.set_cons_succ]
          refine Inv.done (by kernel_rfl) (NoPanic.normal ?_)
          have Q8 := (heap_setCell_same wx hh 0 _ _ (.int .i64 z1) Hh).trans rfl
          have N5 := Lib.hid ((heap_setCell_same (wx.setCell ⟨hh, 0, none⟩ (.int .i64 z1)) hh 1 _ _ (.int .i64 z2) Q8).trans rfl)
          have Y5 := Lib.hid ((hw.setCell (p := ⟨hh, 0, none⟩) hge (.int .i64 z1)).setCell (p := ⟨hh, 1, none⟩) hge (.int .i64 z2))
          clear k0 k1_ f0 f1 Hh Q8 hd hw e9 e38
          generalize (wx.setCell ⟨hh, 0, none⟩ (.int .i64 z1)).setCell ⟨hh, 1, none⟩ (.int .i64 z2) = w5 at *
          have B5 := Lib.hid (Buf.then_ hbr.out Y5.out)
          have OB0 := Lib.hid (own_below O.out Y5.out)
          obtain ⟨n0, n1'⟩ := cell2 N5.out
          clear E1 E2 E3 Z1 O Y5 hge
          have Y6 : Hid (Below w5.heap.size w5 (w5.alloc (.cells #[.int .i64 z1, .int .i64 z2] 100))) := Lib.hid (new_block _)
          have NB := Lib.hid (World.news_of_block (heap_alloc_new w5 (.cells #[.int .i64 z1, .int .i64 z2] 100)))
          have OB := Lib.hid (own_below OB0.out Y6.out)
          have one_ : Hid (∀ u ∈ [Value.int .i64 z1, .int .i64 z2], u.oneCell' = true) := Lib.hid (by simp; exact ⟨rfl, rfl⟩)
          have m1 : Hid (kk + 1 ≤ maxLen) := Lib.hid (by unfold maxLen; omega)
          have m2 : Hid ((kk + 1) * 16 ≤ 140737488355328) := Lib.hid (by omega)
          have hsz : W0.heap.size ≤ (w5.alloc (.cells #[.int .i64 z1, .int .i64 z2] 100)).heap.size := by have := B5.out.size; simp; omega
          go_wp2_with (at_builtin; (refine wpList_append_own _ rfl (.tmp 40) (.tmp 42) 76 rfl W0.heap.size 100 i0 (.agg #[.int .i64 0, .int .i64 0]) 2 16 Try.underlying76 hi0 hz0 hz1 hz2 rfl (by decide) _ kk _ rfl OB.out ⟨w5.heap.size, 0, none⟩ 1 1 _ rfl rfl NB.out one_.out m1.out m2.out hsz ?_; intro v' w6 ho hg _))
          have hg' : (w5.alloc (.cells #[.int .i64 z1, .int .i64 z2] 100)).grownBy w6 (Value.slice ad kk ckk).ownBlock := hg
          have B6 := Lib.hid ((Buf.then_ B5.out Y6.out).grown hg' hsz fun q hq => by have := (OB.out.lt q hq).1; omega)
          obtain ⟨ra, rm, rc, rfl, hrm⟩ := own_letter ho
          have hrm2 : Hid (rm = k + 1) := Lib.hid (by rw [hrm.out, hkk.out])
          have O6 : Hid (w6.ownsRow W0.heap.size 100 2 (.slice ra rm rc) rm (cellsZ ((L.take (k + 1)).map (zfun s lo hi p1 p2 p3 q1 q2 q3)))) := Lib.hid (by
            have e1 := hrm.out
            subst e1
            rw [hsn.out]
            simpa using ho)
          clear ho hg hg' Y6 NB OB OB0 one_ m1 m2 hsz n0 n1' hrm
          go_wp2_with fail
          go_roundw
          case rel => exact ⟨k + 1, ra, rm, rc, by omega, by rw [hkx.out]; go_num, rfl, hrm2, O6, B6⟩
          case measure => have := hkx.out; simp [intOf]; omega
        · obtain e38 : (σ 38) = .agg #[.int .i64 z1, .int .i64 z2] := hd 10 (some 38) (by kernel_rfl) (by decide) (fun h => absurd h (by decide)) (by rfl)
          obtain ⟨hh, e9, hge, Hh⟩ : ∃ hh : Nat, (σ 9) = .pointer (some ⟨hh, 0, none⟩) ∧ wy.heap.size ≤ hh ∧ wx.heap[hh]? = some (.cells #[.int .i64 0, .int .i64 0] 100 (0, 0)) := hd 12 (some 9) (by kernel_rfl) (by decide) (fun h => absurd h (by decide)) (by rfl)
          obtain e39 : (σ 39) = .int .i64 0 := hd 11 (some 39) (by kernel_rfl) (by decide) (fun h => absurd h (by decide)) (by rfl)
          simp only [e9, e38, e39]
          obtain ⟨k0, k1_⟩ := cell2 Hh
          have f0 := frozen_of_row wx hh 0 _ _ Hh
          have f1 := frozen_of_row wx hh 1 _ _ Hh
          refine Inv.one (i := 13) (by decide) (by kernel_rfl) (by rfl) (fun K hK => ?_)
          simp only [List.getElem_toArray, List.getElem_cons_zero, List.getElem_cons_succ, Act.put, List.setIfInBounds_toArray, List.set_cons_zero, List.set_cons_succ] at hK ⊢
          go_simp
          refine hK.out _ _ ?_
          clear hK K
          refine Inv.take (i := 14) (v := .int .i64 0) (by decide) rfl (by kernel_rfl) (by kernel_rfl) (by kernel_rfl) (fun _ _ _ h => h) (by rfl) (fun w' => ?_) ?_
          · simp only [List.getElem_toArray, List.getElem_cons_zero, List.getElem_cons_succ]
            go_simp
          try simp only [Act.put, List.setIfInBounds_toArray, List.set_cons_zero, List.set_cons_succ]
          refine Inv.done (by kernel_rfl) (NoPanic.normal ?_)
          have Q8 := (heap_setCell_same wx hh 0 _ _ (.int .i64 z1) Hh).trans rfl
          have N5 := Lib.hid ((heap_setCell_same (wx.setCell ⟨hh, 0, none⟩ (.int .i64 z1)) hh 1 _ _ (.int .i64 z2) Q8).trans rfl)
          have Y5 := Lib.hid ((hw.setCell (p := ⟨hh, 0, none⟩) hge (.int .i64 z1)).setCell (p := ⟨hh, 1, none⟩) hge (.int .i64 z2))
          clear k0 k1_ f0 f1 Hh Q8 hd hw e9 e38
          generalize (wx.setCell ⟨hh, 0, none⟩ (.int .i64 z1)).setCell ⟨hh, 1, none⟩ (.int .i64 z2) = w5 at *
          have B5 := Lib.hid (Buf.then_ hbr.out Y5.out)
          have OB0 := Lib.hid (own_below O.out Y5.out)
          obtain ⟨n0, n1'⟩ := cell2 N5.out
          clear E1 E2 E3 Z1 O Y5 hge
          have Y6 : Hid (Below w5.heap.size w5 (w5.alloc (.cells #[.int .i64 z1, .int .i64 z2] 100))) := Lib.hid (new_block _)
          have NB := Lib.hid (World.news_of_block (heap_alloc_new w5 (.cells #[.int .i64 z1, .int .i64 z2] 100)))
          have OB := Lib.hid (own_below OB0.out Y6.out)
          have one_ : Hid (∀ u ∈ [Value.int .i64 z1, .int .i64 z2], u.oneCell' = true) := Lib.hid (by simp; exact ⟨rfl, rfl⟩)
          have m1 : Hid (kk + 1 ≤ maxLen) := Lib.hid (by unfold maxLen; omega)
          have m2 : Hid ((kk + 1) * 16 ≤ 140737488355328) := Lib.hid (by omega)
          have hsz : W0.heap.size ≤ (w5.alloc (.cells #[.int .i64 z1, .int .i64 z2] 100)).heap.size := by have := B5.out.size; simp; omega
          go_wp2_with (at_builtin; (refine wpList_append_own _ rfl (.tmp 40) (.tmp 42) 76 rfl W0.heap.size 100 i0 (.agg #[.int .i64 0, .int .i64 0]) 2 16 Try.underlying76 hi0 hz0 hz1 hz2 rfl (by decide) _ kk _ rfl OB.out ⟨w5.heap.size, 0, none⟩ 1 1 _ rfl rfl NB.out one_.out m1.out m2.out hsz ?_; intro v' w6 ho hg _))
          have hg' : (w5.alloc (.cells #[.int .i64 z1, .int .i64 z2] 100)).grownBy w6 (Value.slice ad kk ckk).ownBlock := hg
          have B6 := Lib.hid ((Buf.then_ B5.out Y6.out).grown hg' hsz fun q hq => by have := (OB.out.lt q hq).1; omega)
          obtain ⟨ra, rm, rc, rfl, hrm⟩ := own_letter ho
          have hrm2 : Hid (rm = k + 1) := Lib.hid (by rw [hrm.out, hkk.out])
          have O6 : Hid (w6.ownsRow W0.heap.size 100 2 (.slice ra rm rc) rm (cellsZ ((L.take (k + 1)).map (zfun s lo hi p1 p2 p3 q1 q2 q3)))) := Lib.hid (by
            have e1 := hrm.out
            subst e1
            rw [hsn.out]
            simpa using ho)
          clear ho hg hg' Y6 NB OB OB0 one_ m1 m2 hsz n0 n1' hrm
          go_wp2_with fail
          go_roundw
          case rel => exact ⟨k + 1, ra, rm, rc, by omega, by rw [hkx.out]; go_num, rfl, hrm2, O6, B6⟩
          case measure => have := hkx.out; simp [intOf]; omega
    · obtain rfl : k = nl := by omega
      have hfull : L.take k = L := List.take_of_length_le (by rw [← Hn.out]; exact Nat.le_refl _)
      rw [hfull] at O
      go_wp2_with fail
      go_ret2
      refine ⟨⟨_, rfl, ?_⟩, Buf.then_ hW.out hbr.out⟩
      have h9 := O.out
      have e9 : kk = (L.map (zfun s lo hi p1 p2 p3 q1 q2 q3)).length := by rw [hkk.out, List.length_map, ← Hn.out]
      unfold OwnZ
      rw [← e9]
      exact own_mono h9 (by omega)

end Mis
end Go.Proofs.Ytldgihlhioeipaa

/- The reference of layer 27: At, Least. -/
set_option linter.unusedVariables false
set_option linter.unusedSimpArgs false
namespace Go.Proofs.Ytldgihlhioeipaa
open Go.RowKit Qt
namespace Mis
set_option maxHeartbeats 8000000 in
set_option maxRecDepth 100000 in
theorem rat_any {w : World} {a b c d e f s : Int} {b1 b2 n g nl cc : Nat} {lo hi : List Int} {L : List Ph} {cap : Int} (R : Rg a b c d e f) (W : Bound.Wide w s b1 b2 n lo hi) (hL : PhAllS L) (n1 : 1 ≤ L.length) (n9 : L.length ≤ 64) (c0 : 1 ≤ cap) (c9 : cap ≤ 2000) (hp : PhR w g L) (hn : nl = L.length) (hc : nl ≤ cc) (c1 c2 : Nat) (x y z : Int) (S : Sub a b c d e f x y z x y z) :
    Calls Try.prog 26 #[.agg #[.int .i64 a, .int .i64 b, .int .i64 c, .int .i64 d, .int .i64 e, .int .i64 f, .int .i64 s, .slice (some ⟨b1, 0, none⟩) n c1, .slice (some ⟨b2, 0, none⟩) n c2, .slice (some ⟨g, 0, none⟩) nl cc, .int .i64 cap], .agg #[.int .i64 x, .int .i64 y, .int .i64 z]] w fun r w' => r = .returned (.tuple #[.int .i64 (mf s lo hi cap x y z x y z L).1, .int .i64 (mf s lo hi cap x y z x y z L).2, .int .i64 0]) ∧ Below w.heap.size w w' := by
  have nl1 : 0 < nl := by omega
  have Hn := Lib.hid hn
  have CS := Lib.hid (cs_of R S W hL n1 n9 c0 c9)
  obtain ⟨W0, hW0⟩ : ∃ wz, wz = (w.alloc (.cells #[.int .i64 a, .int .i64 b, .int .i64 c, .int .i64 d, .int .i64 e, .int .i64 f, .int .i64 s, .slice (some ⟨b1, 0, none⟩) n c1, .slice (some ⟨b2, 0, none⟩) n c2, .slice (some ⟨g, 0, none⟩) nl cc, .int .i64 cap] 36)).alloc (.cells #[.int .i64 x, .int .i64 y, .int .i64 z] 24) := ⟨_, rfl⟩
  have B0 : Below w.heap.size w W0 := by rw [hW0]; exact Buf.then_ (new_block _) (new_block _)
  have k1 := Lib.hid (show W0.heap[w.heap.size]? = some (.cells #[.int .i64 a, .int .i64 b, .int .i64 c, .int .i64 d, .int .i64 e, .int .i64 f, .int .i64 s, .slice (some ⟨b1, 0, none⟩) n c1, .slice (some ⟨b2, 0, none⟩) n c2, .slice (some ⟨g, 0, none⟩) nl cc, .int .i64 cap] 36 (0, 0)) by rw [hW0]; exact Geo.blk_alloc (Geo.blk_new w _) _)
  have k2 := Lib.hid (show W0.heap[w.heap.size + 1]? = some (.cells #[.int .i64 x, .int .i64 y, .int .i64 z] 24 (0, 0)) by rw [hW0]; exact Geo.blk_new1 w _ _)
  obtain ⟨w0s, hw0s⟩ : ∃ z, z = w.heap.size := ⟨_, rfl⟩
  obtain ⟨w1s, hw1s⟩ : ∃ z, z = w.heap.size + 1 := ⟨_, rfl⟩
  have HP := Lib.hid (hp.below B0)
  have hW := Lib.hid B0
  have ZO := Lib.hid fun (w' : World) (h' : Below W0.heap.size W0 w') => rzones_any (w := w') R (W.below (Buf.then_ B0 h')) hL n1 n9 c0 c9 (hp.below (Buf.then_ B0 h')) hn hc c1 c2 x y z x y z S
  have ME := Lib.hid (show mf s lo hi cap x y z x y z L = best cap (wt L) (zn (L.map (zfun s lo hi x y z x y z))) nl by rw [hn]; rfl)
  have ZN := Lib.hid (show (L.map (zfun s lo hi x y z x y z)).length = nl by rw [List.length_map]; exact hn.symm)
  rw [ME.out]
  clear ME
  generalize L.map (zfun s lo hi x y z x y z) = ZL at *
  clear W hp hn B0 hL R n1 n9 S
  go_enter Try.func26, Try.ntmps26
  go_upto_region 1 with fail
  rw [← hW0, ← hw1s, ← hw0s]
  rw [← hw1s] at k2
  rw [← hw0s] at k1
  clear hw1s hw0s hW0
  refine wp_region_noPanic ?_
  refine wp_region_any (by kernel_rfl) ?_
  refine Inv.wpAny_inv (fun k => false) [12, 13, 14, 15, 11, 16, 17, 7, 8] (fun w' => Below W0.heap.size W0 w') (fun _ w1 w2 => Below w1.heap.size w1 w2) (fun k => ([fun v_ w_ => v_ = .agg #[.int .i64 a, .int .i64 b, .int .i64 c, .int .i64 d, .int .i64 e, .int .i64 f, .int .i64 s, .slice (some ⟨b1, 0, none⟩) n c1, .slice (some ⟨b2, 0, none⟩) n c2, .slice (some ⟨g, 0, none⟩) nl cc, .int .i64 cap], fun v_ w_ => v_ = .agg #[.int .i64 x, .int .i64 y, .int .i64 z], fun v_ w_ => v_ = .agg #[.int .i64 x, .int .i64 y, .int .i64 z, .int .i64 x, .int .i64 y, .int .i64 z], fun v_ w_ => ∃ (gz_ cz_ : Nat), v_ = .tuple #[.slice (some ⟨gz_, 0, none⟩) nl cz_, .int .i64 0] ∧ ZnR w_ gz_ ZL ∧ nl ≤ cz_ ∧ cz_ ≤ maxLen, fun v_ w_ => ∃ (gz_ cz_ : Nat), v_ = .tuple #[.slice (some ⟨gz_, 0, none⟩) nl cz_, .int .i64 0] ∧ ZnR w_ gz_ ZL ∧ nl ≤ cz_ ∧ cz_ ≤ maxLen, fun v_ w_ => ∃ (gz_ cz_ : Nat), v_ = .slice (some ⟨gz_, 0, none⟩) nl cz_ ∧ ZnR w_ gz_ ZL ∧ nl ≤ cz_ ∧ cz_ ≤ maxLen, fun v_ w_ => v_ = .int .i64 0, fun v_ w_ => ∃ (gz_ cz_ : Nat), v_ = .slice (some ⟨gz_, 0, none⟩) nl cz_ ∧ ZnR w_ gz_ ZL ∧ nl ≤ cz_ ∧ cz_ ≤ maxLen, fun v_ w_ => v_ = .int .i64 0] : List (Value → World → Prop)).getD k (fun _ _ => True)) _ (fun σ => by simp only [Inv.putAll, List.foldl_cons, List.foldl_nil, Act.put, List.setIfInBounds_toArray, List.set_cons_zero, List.set_cons_succ]; rfl) (by kernel_rfl) (by kernel_rfl) ?_ ((Below.refl _ _).drew) ?_ ?_ 0 #[true, true, true, true, true, true, true, true, true] (by kernel_rfl) (by kernel_rfl) ?_
  · intro j k v w1 w2 hjk hv hr
    rcases k with _ | k
    · exact hv
    rcases k with _ | k
    · exact hv
    rcases k with _ | k
    · exact hv
    rcases k with _ | k
    · exact by obtain ⟨g_, c_, h1, h2, h3⟩ := hv; exact ⟨g_, c_, h1, h2.below hr, h3⟩
    rcases k with _ | k
    · exact by obtain ⟨g_, c_, h1, h2, h3⟩ := hv; exact ⟨g_, c_, h1, h2.below hr, h3⟩
    rcases k with _ | k
    · exact by obtain ⟨g_, c_, h1, h2, h3⟩ := hv; exact ⟨g_, c_, h1, h2.below hr, h3⟩
    rcases k with _ | k
    · exact hv
    rcases k with _ | k
    · exact by obtain ⟨g_, c_, h1, h2, h3⟩ := hv; exact ⟨g_, c_, h1, h2.below hr, h3⟩
    rcases k with _ | k
    · exact hv
    · exact hv
  · intro k t hl hd
    rcases k with _ | k
    · exact absurd hl (by decide +kernel)
    rcases k with _ | k
    · exact absurd hl (by decide +kernel)
    rcases k with _ | k
    · exact absurd hl (by decide +kernel)
    rcases k with _ | k
    · exact absurd hl (by decide +kernel)
    rcases k with _ | k
    · exact absurd hl (by decide +kernel)
    rcases k with _ | k
    · exact absurd hl (by decide +kernel)
    rcases k with _ | k
    · exact absurd hl (by decide +kernel)
    rcases k with _ | k
    · exact absurd hl (by decide +kernel)
    rcases k with _ | k
    · exact absurd hl (by decide +kernel)
    · simp at hd
  · show Inv.Steps _ _ _ _ _ _ _ _ [0, 1, 2, 3, 4, 5, 6, 7, 8]
    refine Inv.Steps.go (by decide) (by rfl) (fun σ wx hw hd K hK => ?_) ?_
    · simp only [List.getElem_toArray, List.getElem_cons_zero, List.getElem_cons_succ, Act.put, List.setIfInBounds_toArray, List.set_cons_zero, List.set_cons_succ] at hK ⊢
      refine wp_load_row 36 (.tmp 2) rfl w0s rfl 36 #[.int .i64 a, .int .i64 b, .int .i64 c, .int .i64 d, .int .i64 e, .int .i64 f, .int .i64 s, .slice (some ⟨b1, 0, none⟩) n c1, .slice (some ⟨b2, 0, none⟩) n c2, .slice (some ⟨g, 0, none⟩) nl cc, .int .i64 cap] (0, 0) _ (hb hw k1.out) rfl rfl rfl ?_
      simp only [Act.put, List.setIfInBounds_toArray, List.set_cons_zero, List.set_cons_succ]
      exact hK.out _ _ hw (Below.refl _ _) (rfl)
    refine Inv.Steps.go (by decide) (by rfl) (fun σ wx hw hd K hK => ?_) ?_
    · simp only [List.getElem_toArray, List.getElem_cons_zero, List.getElem_cons_succ, Act.put, List.setIfInBounds_toArray, List.set_cons_zero, List.set_cons_succ] at hK ⊢
      refine wp_load_row 24 (.tmp 3) rfl w1s rfl 24 #[.int .i64 x, .int .i64 y, .int .i64 z] (0, 0) _ (hb hw k2.out) rfl rfl rfl ?_
      simp only [Act.put, List.setIfInBounds_toArray, List.set_cons_zero, List.set_cons_succ]
      exact hK.out _ _ hw (Below.refl _ _) (rfl)
    refine Inv.Steps.go (by decide) (by rfl) (fun σ wx hw hd K hK => ?_) ?_
    · obtain e13 : (σ 13) = .agg #[.int .i64 x, .int .i64 y, .int .i64 z] := hd 1 (some 13) (by kernel_rfl) (by rfl)
      simp only [List.getElem_toArray, List.getElem_cons_zero, List.getElem_cons_succ, Act.put, List.setIfInBounds_toArray, List.set_cons_zero, List.set_cons_succ, e13] at hK ⊢
      go_simp
      go_at_call 47
      refine (Bound.one_any x y z _).mono ?_
      rintro e_ w_ ⟨rfl, hb_⟩
      dsimp only
      exact hK.out _ _ (Buf.then_ hw hb_) hb_ (rfl)
    refine Inv.Steps.go (by decide) (by rfl) (fun σ wx hw hd K hK => ?_) ?_
    · obtain e12 : (σ 12) = .agg #[.int .i64 a, .int .i64 b, .int .i64 c, .int .i64 d, .int .i64 e, .int .i64 f, .int .i64 s, .slice (some ⟨b1, 0, none⟩) n c1, .slice (some ⟨b2, 0, none⟩) n c2, .slice (some ⟨g, 0, none⟩) nl cc, .int .i64 cap] := hd 0 (some 12) (by kernel_rfl) (by rfl)
      obtain e14 : (σ 14) = .agg #[.int .i64 x, .int .i64 y, .int .i64 z, .int .i64 x, .int .i64 y, .int .i64 z] := hd 2 (some 14) (by kernel_rfl) (by rfl)
      simp only [List.getElem_toArray, List.getElem_cons_zero, List.getElem_cons_succ, Act.put, List.setIfInBounds_toArray, List.set_cons_zero, List.set_cons_succ, e12, e14] at hK ⊢
      go_simp
      go_at_call 46
      refine (ZO.out _ hw).mono ?_
      rintro e_ w_ ⟨⟨v_, rfl, oz_⟩, hb_⟩
      obtain ⟨gz_, cz_, rfl, z1_, z2_, z3_, _⟩ := znR_of_own oz_ (by rw [ZN.out]; exact nl1)
      rw [ZN.out] at z2_ ⊢
      dsimp only
      exact hK.out _ _ (Buf.then_ hw hb_) hb_ (⟨_, _, rfl, z1_, z2_, z3_⟩)
    refine Inv.Steps.go (by decide) (by rfl) (fun σ wx hw hd K hK => ?_) ?_
    · obtain ⟨gz_, cz_, e15, Z1, Z2, Z3⟩ : ∃ (gz_ cz_ : Nat), (σ 15) = .tuple #[.slice (some ⟨gz_, 0, none⟩) nl cz_, .int .i64 0] ∧ ZnR wx gz_ ZL ∧ nl ≤ cz_ ∧ cz_ ≤ maxLen := hd 3 (some 15) (by kernel_rfl) (by rfl)
      simp only [List.getElem_toArray, List.getElem_cons_zero, List.getElem_cons_succ, Act.put, List.setIfInBounds_toArray, List.set_cons_zero, List.set_cons_succ, e15] at hK ⊢
      go_simp
      exact hK.out _ _ hw (Below.refl _ _) (⟨_, _, rfl, Z1, Z2, Z3⟩)
    refine Inv.Steps.go (by decide) (by rfl) (fun σ wx hw hd K hK => ?_) ?_
    · obtain ⟨gz_, cz_, e11, Z1, Z2, Z3⟩ : ∃ (gz_ cz_ : Nat), (σ 11) = .tuple #[.slice (some ⟨gz_, 0, none⟩) nl cz_, .int .i64 0] ∧ ZnR wx gz_ ZL ∧ nl ≤ cz_ ∧ cz_ ≤ maxLen := hd 4 (some 11) (by kernel_rfl) (by rfl)
      simp only [List.getElem_toArray, List.getElem_cons_zero, List.getElem_cons_succ, Act.put, List.setIfInBounds_toArray, List.set_cons_zero, List.set_cons_succ, e11] at hK ⊢
      go_simp
      exact hK.out _ _ hw (Below.refl _ _) (⟨_, _, rfl, Z1, Z2, Z3⟩)
    refine Inv.Steps.go (by decide) (by rfl) (fun σ wx hw hd K hK => ?_) ?_
    · obtain ⟨gz_, cz_, e11, Z1, Z2, Z3⟩ : ∃ (gz_ cz_ : Nat), (σ 11) = .tuple #[.slice (some ⟨gz_, 0, none⟩) nl cz_, .int .i64 0] ∧ ZnR wx gz_ ZL ∧ nl ≤ cz_ ∧ cz_ ≤ maxLen := hd 4 (some 11) (by kernel_rfl) (by rfl)
      simp only [List.getElem_toArray, List.getElem_cons_zero, List.getElem_cons_succ, Act.put, List.setIfInBounds_toArray, List.set_cons_zero, List.set_cons_succ, e11] at hK ⊢
      go_simp
      exact hK.out _ _ hw (Below.refl _ _) (rfl)
    refine Inv.Steps.go (by decide) (by rfl) (fun σ wx hw hd K hK => ?_) ?_
    · obtain ⟨gz_, cz_, e16, Z1, Z2, Z3⟩ : ∃ (gz_ cz_ : Nat), (σ 16) = .slice (some ⟨gz_, 0, none⟩) nl cz_ ∧ ZnR wx gz_ ZL ∧ nl ≤ cz_ ∧ cz_ ≤ maxLen := hd 5 (some 16) (by kernel_rfl) (by rfl)
      simp only [List.getElem_toArray, List.getElem_cons_zero, List.getElem_cons_succ, Act.put, List.setIfInBounds_toArray, List.set_cons_zero, List.set_cons_succ, e16] at hK ⊢
      go_simp
      exact hK.out _ _ hw (Below.refl _ _) (⟨_, _, rfl, Z1, Z2, Z3⟩)
    refine Inv.Steps.go (by decide) (by rfl) (fun σ wx hw hd K hK => ?_) ?_
    · obtain e17 : (σ 17) = .int .i64 0 := hd 6 (some 17) (by kernel_rfl) (by rfl)
      simp only [List.getElem_toArray, List.getElem_cons_zero, List.getElem_cons_succ, Act.put, List.setIfInBounds_toArray, List.set_cons_zero, List.set_cons_succ, e17] at hK ⊢
      go_simp
      exact hK.out _ _ hw (Below.refl _ _) (rfl)
    exact Inv.Steps.nil
  · intro σ wx hw hd
    obtain ⟨gz_, cz_, e7, Z1, Z2, Z3⟩ : ∃ (gz_ cz_ : Nat), (σ 7) = .slice (some ⟨gz_, 0, none⟩) nl cz_ ∧ ZnR wx gz_ ZL ∧ nl ≤ cz_ ∧ cz_ ≤ maxLen := hd 7 (some 7) (by rfl) (by rfl)
    obtain e8 : (σ 8) = .int .i64 0 := hd 8 (some 8) (by rfl) (by rfl)
    simp only [e7, e8]
    refine Inv.done (by kernel_rfl) (NoPanic.normal ?_)
    have BE := Lib.hid fun (w' : World) (hp : PhR w' g L) (hz : ZnR w' gz_ ZL) => rbest_any (w := w') a b c d e f s (some ⟨b1, 0, none⟩) (some ⟨b2, 0, none⟩) n n c1 c2 cap CS.out hp hz (by rw [← Hn.out]; exact hc) (by rw [← Hn.out]; exact Z2) Z3 nl Hn.out
    obtain ⟨a0, a1, a2, a3, a4, a5, a6, a7, a8, a9, a10⟩ := c11 (hb hw k1.out)
    have HB := Lib.hid hw
    have ZR := Lib.hid Z1
    clear hd hw Z1 e7 e8
    go_wp2_with fail
    with_reducible refine (BE.out _ (HP.out.below HB.out) ZR.out).mono ?_
    rintro r w6 ⟨rfl, b6⟩
    go_wp2_with fail
    go_ret3
    exact ⟨rfl, Buf.then_ hW.out (Buf.then_ HB.out b6)⟩
end Mis
end Go.Proofs.Ytldgihlhioeipaa
