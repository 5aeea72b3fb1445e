/- RowS: texts joined. -/
import Derived.Test.YtmmikihkfpkapaaGreatGeoAI
import Derived.OwnWalk
import Derived.Laws.AppendOwn
import Derived.Test.YtmmikihkfpkapaaGreatGeoR
/- Slices of the call's own whose elements have three cells. -/
namespace Go.Proofs.YtmmikihkfpkapaaGreat
open Go.RowKit
namespace Row3
/-- The cells of points. -/
def cells (l : List (Int × Int × Int)) : List Value := l.flatMap fun p => [.int .i64 p.1, .int .i64 p.2.1, .int .i64 p.2.2]
theorem cells_append (l m : List (Int × Int × Int)) : cells (l ++ m) = cells l ++ cells m := by simp [cells, List.flatMap_append]
theorem cells_one (x y z : Int) : cells [(x, y, z)] = [.int .i64 x, .int .i64 y, .int .i64 z] := by simp [cells]
theorem cells_snoc (l : List (Int × Int × Int)) (x y z : Int) : cells (l ++ [(x, y, z)]) = cells l ++ [.int .i64 x, .int .i64 y, .int .i64 z] := by rw [cells_append, cells_one]
theorem cells_length (l : List (Int × Int × Int)) : (cells l).length = l.length * 3 := by
  induction l with
  | nil => rfl
  | cons p l ih => simp only [cells, List.flatMap_cons, List.length_append, List.length_cons, List.length_nil] at ih ⊢; omega
theorem cells_get (l : List (Int × Int × Int)) (k : Nat) (p : Int × Int × Int) (h : l[k]? = some p) :
    (cells l)[k * 3]? = some (.int .i64 p.1) ∧ (cells l)[k * 3 + 1]? = some (.int .i64 p.2.1) ∧ (cells l)[k * 3 + 2]? = some (.int .i64 p.2.2) := by
  induction l generalizing k with
  | nil => simp at h
  | cons q l ih =>
    have e : cells (q :: l) = .int .i64 q.1 :: .int .i64 q.2.1 :: .int .i64 q.2.2 :: cells l := by simp [cells]
    rw [e]
    cases k with
    | zero => simp at h; subst h; simp
    | succ k =>
      have := ih k (by simpa using h)
      have e1 : (k + 1) * 3 = k * 3 + 1 + 1 + 1 := by omega
      rw [e1]
      simpa using this
section
variable {P : Program}
theorem append3 {ops : Array Oper} {rest : List Oper} {o : Oper} {a : Act} {Q : Exit → Act → World → Prop} (hgd : o.guard = none) (s x : Operand) (t : TypeId)
    (ho : o.op = .call { callee := .builtin .append, args := #[s, x], argTypes := #[t, t] })
    (B : Nat) (e e1 : TypeId) (i : TypeInfo) (z : Value) (bytes : Nat) (ht : P.underlying t = some (.slice e)) (hi : P.info? e = some i) (hz : i.zero = some z) (hsize : i.size = 3) (hby : i.bytes = bytes) (hzs : z.cells.size = 3)
    {w : World} {v : Value} {n : Nat} {xs : List Value} (hv : a.eval s = v) (h : w.ownsRow B e 3 v n xs) (hB : B ≤ w.heap.size)
    (u0 u1 u2 : Value) (h0 : u0.oneCell' = true) (h1 : u1.oneCell' = true) (h2 : u2.oneCell' = true) (hx : a.eval x = .slice (some ⟨w.heap.size, 0, none⟩) 1 1) (h63 : n + 1 ≤ maxLen) (hbytes : (n + 1) * bytes ≤ 140737488355328)
    (hK : ∀ v' w', w'.ownsRow B e 3 v' (n + 1) (xs ++ [u0, u1, u2]) → (w.alloc (.cells #[u0, u1, u2] e1)).grownBy w' v.ownBlock → wpList P ops Q rest (a.put o.dst v') w') : wpList P ops Q (o :: rest) a (w.alloc (.cells #[u0, u1, u2] e1)) := by
  have hc : ∀ j, (w.alloc (.cells #[u0, u1, u2] e1)).cell? ⟨w.heap.size, j, none⟩ = #[u0, u1, u2][j]? := fun j => World.cell?_alloc_mark w #[u0, u1, u2] e1 (0, 0) j
  refine wpList_append_own _ hgd s x t ho B e i z 3 bytes ht hi hz hsize hby hzs (by decide) v n xs hv (h.alloc _) ⟨w.heap.size, 0, none⟩ 1 1 [u0, u1, u2] hx rfl (fun j u hu => ?_) (fun u hu => ?_) h63 hbytes (by simp; omega) (fun v' w' h2 h3 _ => hK v' w' h2 h3)
  · rw [Addr.add_lit, Nat.zero_add, hc]
    rw [← hu]
    simp
  · simp at hu
    rcases hu with rfl | rfl | rfl <;> assumption
end
/-- What an append leaves of the call's box and of what lay below. -/
theorem keep3 {w wr w' : World} {v : Value} {e : TypeId} {n : Nat} {xs : List Value} {o o' : Obj} (own : wr.ownsRow (w.heap.size + 1) e 3 v n xs) (p : wr.heap[w.heap.size]? = some o) (hW : Below w.heap.size w wr) (hg : (wr.alloc o').grownBy w' v.ownBlock) :
    w'.heap[w.heap.size]? = some o ∧ Below w.heap.size w w' := by
  refine ⟨(hg.block w.heap.size (by have := (Array.getElem?_eq_some_iff.1 p).1; simp; omega) (fun he => by have := (own.lt _ he.symm).1; omega)).trans (Geo.blk_alloc p o'), ?_⟩
  refine Below.grown (Geo.bl_alloc hW) hg (by have := (Array.getElem?_eq_some_iff.1 p).1; simp; omega) fun k hk => ?_
  have := (own.lt _ hk).1
  omega
end Row3
end Go.Proofs.YtmmikihkfpkapaaGreat

/- The contract of All. -/
namespace Go.Proofs.YtmmikihkfpkapaaGreat
open Go.RowKit
namespace Geo
theorem info3 : (Tryz.prog.info? 26).map (fun i => (i.zero, i.size, i.bytes)) = some (some (.agg #[.int .i64 0, .int .i64 0, .int .i64 0]), 3, 24) := by kernel_rfl
theorem len_bd {a b c x y : Int} {Y Z k m q : Nat} (hk : k ≤ 100) (hY : Y ≤ 100) (hZ : Z ≤ 100) (hm : m ≤ 100) (hq : q ≤ 100) : (Fs a b c Y Z k ++ Gs x b c Z m ++ Hs x y c q).length ≤ 1020100 := by
  rw [List.length_append, List.length_append, Fs_length, Gs_length, Hs_length]
  have h1 : Y * Z ≤ 100 * 100 := Nat.mul_le_mul hY hZ
  have h2 : k * (Y * Z) ≤ 100 * (100 * 100) := Nat.mul_le_mul hk h1
  have h3 : m * Z ≤ 100 * 100 := Nat.mul_le_mul hm hZ
  omega
/-- What All returns. -/
def AllSaid (W : World) (l : List (Int × Int × Int)) (r : Ending) (w' : World) : Prop := ∃ v, r = .returned v ∧ w'.ownsRow (W.heap.size + 1) 26 3 v l.length (Row3.cells l)
theorem int_eq {x y : Int} (h : x = y) : Value.int .i64 x = Value.int .i64 y := by rw [h]
set_option maxHeartbeats 4000000 in
set_option maxRecDepth 100000 in
theorem all_any (a b c d e f : Int) (X Y Z : Nat) (hX : (X : Int) = d - a + 1) (hY : (Y : Int) = e - b + 1) (hZ : (Z : Int) = f - c + 1) (h : BV a b c d e f) (X9 : X ≤ 100) (Y9 : Y ≤ 100) (Z9 : Z ≤ 100) (w : World) :
    Calls Tryz.prog 18 #[.agg #[.int .i64 a, .int .i64 b, .int .i64 c, .int .i64 d, .int .i64 e, .int .i64 f]] w fun r w' => AllSaid w (Fs a b c Y Z X) r w' ∧ Below w.heap.size w w' := by
  obtain ⟨i0, hi, hz0, hz1, hz2⟩ := info_parts info3
  obtain ⟨⟨ax0, ax1, ay0, ay1, az0, az1⟩, ⟨dx0, dx1, dy0, dy1, dz0, dz1⟩, hx, hy, hz⟩ := h
  have HI := Lib.hid hi
  have HZ0 := Lib.hid hz0
  have HZ1 := Lib.hid hz1
  have HZ2 := Lib.hid hz2
  have X0 : (X : Int) ≤ d - a + 1 := by omega
  have X1 : d - a + 1 ≤ (X : Int) := by omega
  have Y0 : (Y : Int) ≤ e - b + 1 := by omega
  have Y1 : e - b + 1 ≤ (Y : Int) := by omega
  have Z0 : (Z : Int) ≤ f - c + 1 := by omega
  have Z1 : f - c + 1 ≤ (Z : Int) := by omega
  clear hi hz0 hz1 hz2 hX hY hZ
  have p1 := Lib.hid (blk_new w (.cells #[.int .i64 a, .int .i64 b, .int .i64 c, .int .i64 d, .int .i64 e, .int .i64 f] 28))
  have hW : Hid (Below w.heap.size w (w.alloc (.cells #[.int .i64 a, .int .i64 b, .int .i64 c, .int .i64 d, .int .i64 e, .int .i64 f] 28))) := Lib.hid (new_block _)
  have own0 : Hid ((w.alloc (.cells #[.int .i64 a, .int .i64 b, .int .i64 c, .int .i64 d, .int .i64 e, .int .i64 f] 28)).ownsRow (w.heap.size + 1) 26 3 (.slice none 0 0) (Fs a b c Y Z 0).length (Row3.cells (Fs a b c Y Z 0))) := Lib.hid (World.ownsRow_nil _ _ _ _)
  go_enter Tryz.func18, Tryz.ntmps18
  go_wp2
  go_loopw [3, 4] (fun v i wr => ∃ k : Nat, k ≤ X ∧ i = .int .i64 (a + k) ∧ Hid (wr.ownsRow (w.heap.size + 1) 26 3 v (Fs a b c Y Z k).length (Row3.cells (Fs a b c Y Z k))) ∧ Hid (wr.heap[w.heap.size]? = some (.cells #[.int .i64 a, .int .i64 b, .int .i64 c, .int .i64 d, .int .i64 e, .int .i64 f] 28 (0, 0))) ∧ Hid (Below w.heap.size w wr)) (fun _ i _ => (a + X - intOf i).toNat)
  case atStart => exact ⟨0, by omega, int_eq (by omega), own0, p1, hW⟩
  case round =>
    clear own0 p1 hW
    obtain ⟨k, hk, rfl, own1, p1, hW⟩ := hrel
    obtain ⟨c1, c2, c3, c4, c5, c6⟩ := cells6 p1.out
    by_cases hlt : k < X
    · have t1 : a + (k : Int) ≤ d := by omega
      go_wp2
      obtain ⟨wo, rfl⟩ : ∃ wo, wo = wr := ⟨_, rfl⟩
      go_loopw [3, 5] (fun v j wr => ∃ m : Nat, m ≤ Y ∧ j = .int .i64 (b + m) ∧ Hid (wr.ownsRow (w.heap.size + 1) 26 3 v (Fs a b c Y Z k ++ Gs (a + k) b c Z m).length (Row3.cells (Fs a b c Y Z k ++ Gs (a + k) b c Z m))) ∧ Hid (wr.heap[w.heap.size]? = some (.cells #[.int .i64 a, .int .i64 b, .int .i64 c, .int .i64 d, .int .i64 e, .int .i64 f] 28 (0, 0))) ∧ Hid (Below w.heap.size w wr)) (fun _ j _ => (b + Y - intOf j).toNat)
      case atStart => exact ⟨0, by omega, int_eq (by omega), by simpa [Gs] using own1, p1, hW⟩
      case round =>
        clear own1 p1 hW c1 c2 c3 c4 c5 c6
        obtain ⟨m, hm, rfl, own2, p1, hW⟩ := hrel
        obtain ⟨c1, c2, c3, c4, c5, c6⟩ := cells6 p1.out
        by_cases hlt2 : m < Y
        · have t2 : b + (m : Int) ≤ e := by omega
          go_wp2
          obtain ⟨wp, rfl⟩ : ∃ wp, wp = wr := ⟨_, rfl⟩
          go_loopw [3, 6] (fun v j wr => ∃ q : Nat, q ≤ Z ∧ j = .int .i64 (c + q) ∧ Hid (wr.ownsRow (w.heap.size + 1) 26 3 v (Fs a b c Y Z k ++ Gs (a + k) b c Z m ++ Hs (a + k) (b + m) c q).length (Row3.cells (Fs a b c Y Z k ++ Gs (a + k) b c Z m ++ Hs (a + k) (b + m) c q))) ∧ Hid (wr.heap[w.heap.size]? = some (.cells #[.int .i64 a, .int .i64 b, .int .i64 c, .int .i64 d, .int .i64 e, .int .i64 f] 28 (0, 0))) ∧ Hid (Below w.heap.size w wr)) (fun _ j _ => (c + Z - intOf j).toNat)
          case atStart => exact ⟨0, by omega, int_eq (by omega), by simpa [Hs] using own2, p1, hW⟩
          case round =>
            clear own2 p1 hW c1 c2 c3 c4 c5 c6
            obtain ⟨q, hq, rfl, own3, p1, hW⟩ := hrel
            obtain ⟨c1, c2, c3, c4, c5, c6⟩ := cells6 p1.out
            by_cases hlt3 : q < Z
            · have t3 : c + (q : Int) ≤ f := by omega
              have hlen := len_bd (a := a) (b := b) (c := c) (x := a + k) (y := b + m) (k := k) (m := m) (q := q) (by omega) Y9 Z9 (by omega) (by omega)
              have hsz : w.heap.size + 1 ≤ wr.heap.size := (Array.getElem?_eq_some_iff.1 p1.out).1
              go_wp2_with (at_builtin; refine Row3.append3 rfl _ _ 63 rfl (w.heap.size + 1) 26 _ i0 _ 24 Tryz.underlying63 HI.out HZ0.out HZ1.out HZ2.out rfl rfl own3.out hsz _ _ _ rfl rfl rfl rfl (by unfold maxLen; omega) (by omega) ?_; intro v' w' hown' hg)
              obtain ⟨r1, r2⟩ := Row3.keep3 own3.out p1.out hW.out hg
              go_roundw
              case rel => exact ⟨q + 1, by omega, int_eq (by omega), Lib.hid (by rw [Hs_succ, ← List.append_assoc, Row3.cells_snoc, List.length_append]; exact hown'), Lib.hid r1, Lib.hid r2⟩
              case measure => simp [intOf]; omega
            · obtain rfl : q = Z := by omega
              have t3 : f < c + (q : Int) := by omega
              go_wp2
              go_roundw
              case rel => exact ⟨m + 1, by omega, int_eq (by omega), Lib.hid (by rw [Gs_succ, ← List.append_assoc]; exact own3.out), p1, hW⟩
              case measure => simp [intOf]; omega
        · obtain rfl : m = Y := by omega
          have t2 : e < b + (m : Int) := by omega
          go_wp2
          go_roundw
          case rel => exact ⟨k + 1, by omega, int_eq (by omega), Lib.hid (by rw [Fs_succ]; exact own2.out), p1, hW⟩
          case measure => simp [intOf]; omega
    · obtain rfl : k = X := by omega
      have t1 : d < a + (k : Int) := by omega
      go_wp2
      go_ret
      exact ⟨⟨_, rfl, own1.out⟩, hW.out⟩
end Geo
end Go.Proofs.YtmmikihkfpkapaaGreat
