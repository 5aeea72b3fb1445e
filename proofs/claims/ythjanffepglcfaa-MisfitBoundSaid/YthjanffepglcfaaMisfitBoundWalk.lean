/- The walk of MisfitBound. -/
import Derived.Test.YthjanffepglcfaaMisP
import Derived.Test.YthjanffepglcfaaMisR
import Derived.Test.YthjanffepglcfaaKeep
import Derived.Test.YthjanffepglcfaaGeoQ
import Derived.Test.YthjanffepglcfaaGeoR
import Derived.Test.YthjanffepglcfaaGeoH
import Derived.OwnWalk
import Derived.Laws.AppendOwn
import Derived.Test.YthjanffepglcfaaBoundD
set_option linter.unusedVariables false
set_option linter.unusedSimpArgs false
namespace Go.Proofs.Ythjanffepglcfaa
open Go.RowKit
namespace Row3
/-- The cells of points. -/
def cells (l : List (Int × Int × Int)) : List Value := l.flatMap fun p => [.int .i64 p.1, .int .i64 p.2.1, .int .i64 p.2.2]
theorem cells_append (l m : List (Int × Int × Int)) : cells (l ++ m) = cells l ++ cells m := by simp [cells, List.flatMap_append]
theorem cells_one (x y z : Int) : cells [(x, y, z)] = [.int .i64 x, .int .i64 y, .int .i64 z] := by simp [cells]
theorem cells_snoc (l : List (Int × Int × Int)) (x y z : Int) : cells (l ++ [(x, y, z)]) = cells l ++ [.int .i64 x, .int .i64 y, .int .i64 z] := by rw [cells_append, cells_one]
theorem cells_length (l : List (Int × Int × Int)) : (cells l).length = l.length * 3 := by
  induction l with
  | nil => rfl
  | cons p l ih => simp only [cells, List.flatMap_cons, List.length_append, List.length_cons, List.length_nil] at ih ⊢; omega
theorem cells_get (l : List (Int × Int × Int)) (k : Nat) (p : Int × Int × Int) (h : l[k]? = some p) :
    (cells l)[k * 3]? = some (.int .i64 p.1) ∧ (cells l)[k * 3 + 1]? = some (.int .i64 p.2.1) ∧ (cells l)[k * 3 + 2]? = some (.int .i64 p.2.2) := by
  induction l generalizing k with
  | nil => simp at h
  | cons q l ih =>
    have e : cells (q :: l) = .int .i64 q.1 :: .int .i64 q.2.1 :: .int .i64 q.2.2 :: cells l := by simp [cells]
    rw [e]
    cases k with
    | zero => simp at h; subst h; simp
    | succ k =>
      have := ih k (by simpa using h)
      have e1 : (k + 1) * 3 = k * 3 + 1 + 1 + 1 := by omega
      rw [e1]
      simpa using this
section
variable {P : Program}
theorem append3 {ops : Array Oper} {rest : List Oper} {o : Oper} {a : Act} {Q : Exit → Act → World → Prop} (hgd : o.guard = none) (s x : Operand) (t : TypeId)
    (ho : o.op = .call { callee := .builtin .append, args := #[s, x], argTypes := #[t, t] })
    (B : Nat) (e e1 : TypeId) (i : TypeInfo) (z : Value) (bytes : Nat) (ht : P.underlying t = some (.slice e)) (hi : P.info? e = some i) (hz : i.zero = some z) (hsize : i.size = 3) (hby : i.bytes = bytes) (hzs : z.cells.size = 3)
    {w : World} {v : Value} {n : Nat} {xs : List Value} (hv : a.eval s = v) (h : w.ownsRow B e 3 v n xs) (hB : B ≤ w.heap.size)
    (u0 u1 u2 : Value) (h0 : u0.oneCell' = true) (h1 : u1.oneCell' = true) (h2 : u2.oneCell' = true) (hx : a.eval x = .slice (some ⟨w.heap.size, 0, none⟩) 1 1) (h63 : n + 1 ≤ maxLen) (hbytes : (n + 1) * bytes ≤ 140737488355328)
    (hK : ∀ v' w', w'.ownsRow B e 3 v' (n + 1) (xs ++ [u0, u1, u2]) → (w.alloc (.cells #[u0, u1, u2] e1)).grownBy w' v.ownBlock → wpList P ops Q rest (a.put o.dst v') w') : wpList P ops Q (o :: rest) a (w.alloc (.cells #[u0, u1, u2] e1)) := by
  have hc : ∀ j, (w.alloc (.cells #[u0, u1, u2] e1)).cell? ⟨w.heap.size, j, none⟩ = #[u0, u1, u2][j]? := fun j => World.cell?_alloc_mark w #[u0, u1, u2] e1 (0, 0) j
  refine wpList_append_own _ hgd s x t ho B e i z 3 bytes ht hi hz hsize hby hzs (by decide) v n xs hv (h.alloc _) ⟨w.heap.size, 0, none⟩ 1 1 [u0, u1, u2] hx rfl (fun j u hu => ?_) (fun u hu => ?_) h63 hbytes (by simp; omega) (fun v' w' h2 h3 _ => hK v' w' h2 h3)
  · rw [Addr.add_lit, Nat.zero_add, hc]
    rw [← hu]
    simp
  · simp at hu
    rcases hu with rfl | rfl | rfl <;> assumption
end
/-- What an append leaves of the call's box and of what lay below. -/
theorem keep3 {w wr w' : World} {v : Value} {e : TypeId} {n : Nat} {xs : List Value} {o o' : Obj} (own : wr.ownsRow (w.heap.size + 1) e 3 v n xs) (p : wr.heap[w.heap.size]? = some o) (hW : Below w.heap.size w wr) (hg : (wr.alloc o').grownBy w' v.ownBlock) :
    w'.heap[w.heap.size]? = some o ∧ Below w.heap.size w w' := by
  refine ⟨(hg.block w.heap.size (by have := (Array.getElem?_eq_some_iff.1 p).1; simp; omega) (fun he => by have := (own.lt _ he.symm).1; omega)).trans (Geo.blk_alloc p o'), ?_⟩
  refine Below.grown (Geo.bl_alloc hW) hg (by have := (Array.getElem?_eq_some_iff.1 p).1; simp; omega) fun k hk => ?_
  have := (own.lt _ hk).1
  omega
end Row3
end Go.Proofs.Ythjanffepglcfaa
namespace Go.Proofs.Ythjanffepglcfaa
open Go.RowKit
namespace Geo
theorem info3 : (Try.prog.info? 26).map (fun i => (i.zero, i.size, i.bytes)) = some (some (.agg #[.int .i64 0, .int .i64 0, .int .i64 0]), 3, 24) := by kernel_rfl
theorem len_bd {a b c x y : Int} {Y Z k m q : Nat} (hk : k ≤ 100) (hY : Y ≤ 100) (hZ : Z ≤ 100) (hm : m ≤ 100) (hq : q ≤ 100) : (Fs a b c Y Z k ++ Gs x b c Z m ++ Hs x y c q).length ≤ 1020100 := by
  rw [List.length_append, List.length_append, Fs_length, Gs_length, Hs_length]
  have h1 : Y * Z ≤ 100 * 100 := Nat.mul_le_mul hY hZ
  have h2 : k * (Y * Z) ≤ 100 * (100 * 100) := Nat.mul_le_mul hk h1
  have h3 : m * Z ≤ 100 * 100 := Nat.mul_le_mul hm hZ
  omega
/-- What All returns. -/
def AllSaid (W : World) (l : List (Int × Int × Int)) (r : Ending) (w' : World) : Prop := ∃ v, r = .returned v ∧ w'.ownsRow (W.heap.size + 1) 26 3 v l.length (Row3.cells l)
theorem int_eq {x y : Int} (h : x = y) : Value.int .i64 x = Value.int .i64 y := by rw [h]
set_option maxHeartbeats 4000000 in
set_option maxRecDepth 100000 in
theorem all_any (a b c d e f : Int) (X Y Z : Nat) (hX : (X : Int) = d - a + 1) (hY : (Y : Int) = e - b + 1) (hZ : (Z : Int) = f - c + 1) (h : BV a b c d e f) (X9 : X ≤ 100) (Y9 : Y ≤ 100) (Z9 : Z ≤ 100) (w : World) :
    Calls Try.prog 22 #[.agg #[.int .i64 a, .int .i64 b, .int .i64 c, .int .i64 d, .int .i64 e, .int .i64 f]] w fun r w' => AllSaid w (Fs a b c Y Z X) r w' ∧ Below w.heap.size w w' := by
  obtain ⟨i0, hi, hz0, hz1, hz2⟩ := info_parts info3
  obtain ⟨⟨ax0, ax1, ay0, ay1, az0, az1⟩, ⟨dx0, dx1, dy0, dy1, dz0, dz1⟩, hx, hy, hz⟩ := h
  have HI := Lib.hid hi
  have HZ0 := Lib.hid hz0
  have HZ1 := Lib.hid hz1
  have HZ2 := Lib.hid hz2
  have X0 : (X : Int) ≤ d - a + 1 := by omega
  have X1 : d - a + 1 ≤ (X : Int) := by omega
  have Y0 : (Y : Int) ≤ e - b + 1 := by omega
  have Y1 : e - b + 1 ≤ (Y : Int) := by omega
  have Z0 : (Z : Int) ≤ f - c + 1 := by omega
  have Z1 : f - c + 1 ≤ (Z : Int) := by omega
  clear hi hz0 hz1 hz2 hX hY hZ
  have p1 := Lib.hid (blk_new w (.cells #[.int .i64 a, .int .i64 b, .int .i64 c, .int .i64 d, .int .i64 e, .int .i64 f] 28))
  have hW : Hid (Below w.heap.size w (w.alloc (.cells #[.int .i64 a, .int .i64 b, .int .i64 c, .int .i64 d, .int .i64 e, .int .i64 f] 28))) := Lib.hid (new_block _)
  have own0 : Hid ((w.alloc (.cells #[.int .i64 a, .int .i64 b, .int .i64 c, .int .i64 d, .int .i64 e, .int .i64 f] 28)).ownsRow (w.heap.size + 1) 26 3 (.slice none 0 0) (Fs a b c Y Z 0).length (Row3.cells (Fs a b c Y Z 0))) := Lib.hid (World.ownsRow_nil _ _ _ _)
  go_enter Try.func22, Try.ntmps22
  go_wp2
  go_loopw [3, 4] (fun v i wr => ∃ k : Nat, k ≤ X ∧ i = .int .i64 (a + k) ∧ Hid (wr.ownsRow (w.heap.size + 1) 26 3 v (Fs a b c Y Z k).length (Row3.cells (Fs a b c Y Z k))) ∧ Hid (wr.heap[w.heap.size]? = some (.cells #[.int .i64 a, .int .i64 b, .int .i64 c, .int .i64 d, .int .i64 e, .int .i64 f] 28 (0, 0))) ∧ Hid (Below w.heap.size w wr)) (fun _ i _ => (a + X - intOf i).toNat)
  case atStart => exact ⟨0, by omega, int_eq (by omega), own0, p1, hW⟩
  case round =>
    clear own0 p1 hW
    obtain ⟨k, hk, rfl, own1, p1, hW⟩ := hrel
    obtain ⟨c1, c2, c3, c4, c5, c6⟩ := cells6 p1.out
    by_cases hlt : k < X
    · have t1 : a + (k : Int) ≤ d := by omega
      go_wp2
      obtain ⟨wo, rfl⟩ : ∃ wo, wo = wr := ⟨_, rfl⟩
      go_loopw [3, 5] (fun v j wr => ∃ m : Nat, m ≤ Y ∧ j = .int .i64 (b + m) ∧ Hid (wr.ownsRow (w.heap.size + 1) 26 3 v (Fs a b c Y Z k ++ Gs (a + k) b c Z m).length (Row3.cells (Fs a b c Y Z k ++ Gs (a + k) b c Z m))) ∧ Hid (wr.heap[w.heap.size]? = some (.cells #[.int .i64 a, .int .i64 b, .int .i64 c, .int .i64 d, .int .i64 e, .int .i64 f] 28 (0, 0))) ∧ Hid (Below w.heap.size w wr)) (fun _ j _ => (b + Y - intOf j).toNat)
      case atStart => exact ⟨0, by omega, int_eq (by omega), by simpa [Gs] using own1, p1, hW⟩
      case round =>
        clear own1 p1 hW c1 c2 c3 c4 c5 c6
        obtain ⟨m, hm, rfl, own2, p1, hW⟩ := hrel
        obtain ⟨c1, c2, c3, c4, c5, c6⟩ := cells6 p1.out
        by_cases hlt2 : m < Y
        · have t2 : b + (m : Int) ≤ e := by omega
          go_wp2
          obtain ⟨wp, rfl⟩ : ∃ wp, wp = wr := ⟨_, rfl⟩
          go_loopw [3, 6] (fun v j wr => ∃ q : Nat, q ≤ Z ∧ j = .int .i64 (c + q) ∧ Hid (wr.ownsRow (w.heap.size + 1) 26 3 v (Fs a b c Y Z k ++ Gs (a + k) b c Z m ++ Hs (a + k) (b + m) c q).length (Row3.cells (Fs a b c Y Z k ++ Gs (a + k) b c Z m ++ Hs (a + k) (b + m) c q))) ∧ Hid (wr.heap[w.heap.size]? = some (.cells #[.int .i64 a, .int .i64 b, .int .i64 c, .int .i64 d, .int .i64 e, .int .i64 f] 28 (0, 0))) ∧ Hid (Below w.heap.size w wr)) (fun _ j _ => (c + Z - intOf j).toNat)
          case atStart => exact ⟨0, by omega, int_eq (by omega), by simpa [Hs] using own2, p1, hW⟩
          case round =>
            clear own2 p1 hW c1 c2 c3 c4 c5 c6
            obtain ⟨q, hq, rfl, own3, p1, hW⟩ := hrel
            obtain ⟨c1, c2, c3, c4, c5, c6⟩ := cells6 p1.out
            by_cases hlt3 : q < Z
            · have t3 : c + (q : Int) ≤ f := by omega
              have hlen := len_bd (a := a) (b := b) (c := c) (x := a + k) (y := b + m) (k := k) (m := m) (q := q) (by omega) Y9 Z9 (by omega) (by omega)
              have hsz : w.heap.size + 1 ≤ wr.heap.size := (Array.getElem?_eq_some_iff.1 p1.out).1
              go_wp2_with (at_builtin; refine Row3.append3 rfl _ _ 49 rfl (w.heap.size + 1) 26 _ i0 _ 24 Try.underlying49 HI.out HZ0.out HZ1.out HZ2.out rfl rfl own3.out hsz _ _ _ rfl rfl rfl rfl (by unfold maxLen; omega) (by omega) ?_; intro v' w' hown' hg)
              obtain ⟨r1, r2⟩ := Row3.keep3 own3.out p1.out hW.out hg
              go_roundw
              case rel => exact ⟨q + 1, by omega, int_eq (by omega), Lib.hid (by rw [Hs_succ, ← List.append_assoc, Row3.cells_snoc, List.length_append]; exact hown'), Lib.hid r1, Lib.hid r2⟩
              case measure => simp [intOf]; omega
            · obtain rfl : q = Z := by omega
              have t3 : f < c + (q : Int) := by omega
              go_wp2
              go_roundw
              case rel => exact ⟨m + 1, by omega, int_eq (by omega), Lib.hid (by rw [Gs_succ, ← List.append_assoc]; exact own3.out), p1, hW⟩
              case measure => simp [intOf]; omega
        · obtain rfl : m = Y := by omega
          have t2 : e < b + (m : Int) := by omega
          go_wp2
          go_roundw
          case rel => exact ⟨k + 1, by omega, int_eq (by omega), Lib.hid (by rw [Fs_succ]; exact own2.out), p1, hW⟩
          case measure => simp [intOf]; omega
    · obtain rfl : k = X := by omega
      have t1 : d < a + (k : Int) := by omega
      go_wp2
      go_ret
      exact ⟨⟨_, rfl, own1.out⟩, hW.out⟩
end Geo
end Go.Proofs.Ythjanffepglcfaa
namespace Go.Proofs.Ythjanffepglcfaa
open Go.RowKit
namespace Mis
theorem own3 {w : World} {B : Nat} {e : TypeId} {v : Value} {n : Nat} {xs : List Value} (h : w.ownsRow B e 3 v n xs) (hn : 0 < n) : ∃ (g cap : Nat) (o : Obj), v = .slice (some ⟨g, 0, none⟩) n cap ∧ w.heap[g]? = some o ∧ (∀ w' : World, w'.heap[g]? = some o → ∀ j u, xs[j]? = some u → w'.cell? ⟨g, j, none⟩ = some u) ∧ n ≤ cap := by
  rcases id h.2 with ⟨_, h0⟩ | ⟨g, cap, cur, rfl, hb, hg, h1, _⟩
  · omega
  · refine ⟨g, cap, _, rfl, hg, fun w' hw' j u hu => ?_, h1⟩
    rw [World.cell?_of_block (a := ⟨g, j, none⟩) (hw'.trans hg.symm)]
    have := h.cells (g := g) rfl j u hu
    rwa [Addr.add_lit, Nat.zero_add] at this
set_option maxHeartbeats 16000000 in
set_option maxRecDepth 100000 in
theorem misfitBound_any (a0 : Option Addr) (len0 cap0 : Nat) (z0 : List Int) (w : World) (w0 : Buf.IsRow .i64 w a0 len0 cap0 z0) :
    Calls Try.prog 5 #[.slice a0 len0 cap0] w fun e w' => e = .returned (.bool true) ∧ Below w.heap.size w w' := by
  go_enter Try.func5, Try.ntmps5
  go_wp2_with fail
  refine (Src.new_any a0 len0 cap0 z0 w w0).mono ?_
  rintro e0 wA ⟨rfl, m, hd⟩
  have L0 := Lib.hid (Src.Left.refl hd)
  have sA : w.heap.size < wA.heap.size := hd.lt
  clear hd w0
  go_wp2_with fail
  refine (problem_any 4 5 (by decide) (by decide) (by decide) (by decide) L0.out.di).mono ?_
  rintro e0 w2 ⟨⟨a1, a2, a3, d1, d2, d3, s, b1, b2, n, c1, c2, lo, hi, gp, cpp, L, cp, nl, rfl, hnl, P⟩, hl⟩
  have R := Lib.hid (P.rg (by decide))
  have cp0 := P.c0
  have cp9 := P.c9
  have n1 := P.n1
  have n9 := P.n9
  have tv := Lib.hid P.tv
  have pr := Lib.hid P.pr
  have PH := Lib.hid P.ph
  have m1 := P.m1
  have m2 := P.m2
  have m3 := P.gB
  have le := P.le
  have hx := P.mx
  have e1 := P.tv.tv.e1
  have e2 := P.tv.tv.e2
  have e3 := P.pr.1
  replace hnl := Lib.hid hnl
  have s2 : wA.heap.size ≤ w2.heap.size := hl.far.size
  replace L0 := Lib.hid (L0.out.trans hl)
  clear hl P
  obtain ⟨w3, hw3⟩ : ∃ w3, w3 = w2.alloc (.cells #[.int .i64 a1, .int .i64 a2, .int .i64 a3, .int .i64 d1, .int .i64 d2, .int .i64 d3, .int .i64 s, .slice (some ⟨b1, 0, none⟩) n c1, .slice (some ⟨b2, 0, none⟩) n c2, .slice (some ⟨gp, 0, none⟩) nl cpp, .int .i64 cp] 33) := ⟨_, rfl⟩
  have Y1 : Hid (Below w2.heap.size w2 w3) := Lib.hid (by rw [hw3]; exact new_block _)
  have K6 := Lib.hid (show w3.heap[w2.heap.size]? = some (.cells #[.int .i64 a1, .int .i64 a2, .int .i64 a3, .int .i64 d1, .int .i64 d2, .int .i64 d3, .int .i64 s, .slice (some ⟨b1, 0, none⟩) n c1, .slice (some ⟨b2, 0, none⟩) n c2, .slice (some ⟨gp, 0, none⟩) nl cpp, .int .i64 cp] 33 (0, 0)) by rw [hw3]; exact heap_alloc_new w2 _)
  have sb6 : w2.heap.size < w3.heap.size := by rw [hw3]; simp
  go_upto_region 3 with fail
  rw [← hw3]
  clear hw3
  obtain ⟨b6, hb6⟩ : ∃ b6, b6 = w2.heap.size := ⟨_, rfl⟩
  rw [← hb6] at K6 sb6 ⊢
  have hb6l : w2.heap.size ≤ b6 := by omega
  have hb6g : b6 ≤ w2.heap.size := by omega
  clear hb6
  replace tv := Lib.hid (tv.out.below Y1.out)
  replace pr := Lib.hid (pr.out.below Y1.out)
  replace L0 := Lib.hid (L0.out.below Y1.out)
  clear Y1
  have hnl' : nl ≤ cpp := by rw [hnl.out]; exact le
  have BW := Lib.hid L0.out.di.bel
  clear L0 sb6 hb6l hb6g s2 sA e1 e2 e3 m1 m2 m3
  have AT := Lib.hid fun (w' : World) (h' : Bound.Wide w' s b1 b2 n lo hi) (hp : PhR w' gp L) x y z S => at_of R.out h' PH.out.s n1 (by omega) cp0 (by omega : cp ≤ 2000) hp hnl.out hnl' c1 c2 x y z S
  have BD := Lib.hid fun (w' : World) (h' : Bound.Wide w' s b1 b2 n lo hi) (hp : PhR w' gp L) p1 p2 p3 q1 q2 q3 S => bound_of R.out h' PH.out.s n1 (by omega) cp0 (by omega : cp ≤ 2000) hp hnl.out hnl' c1 c2 p1 p2 p3 q1 q2 q3 S
  have LE := Lib.hid fun p1 p2 p3 q1 q2 q3 (S : Sub a1 a2 a3 d1 d2 d3 p1 p2 p3 q1 q2 q3) => best_sub R.out (Sub.refl R.out.bv) S S tv.out PH.out.s n1 cp0
  change Hid (∀ p1 p2 p3 q1 q2 q3 (S : Sub a1 a2 a3 d1 d2 d3 p1 p2 p3 q1 q2 q3), (mf s lo hi cp a1 a2 a3 d1 d2 d3 L).2 ≤ (mf s lo hi cp p1 p2 p3 q1 q2 q3 L).2) at LE
  have B1 := Lib.hid (BD.out w3 tv.out pr.out a1 a2 a3 d1 d2 d3 (Sub.refl R.out.bv))
  generalize (mf s lo hi cp a1 a2 a3 d1 d2 d3 L).2 = v0 at *
  obtain ⟨f0, f1, f2, f3, f4, f5, f6, f7, f8, f9, f10⟩ := c11 K6.out
  go_wp2_with fail
  with_reducible refine (B1.out).mono ?_
  rintro e0 w4 ⟨rfl, hc⟩
  replace K6 := Lib.hid (hb hc K6.out)
  replace tv := Lib.hid (tv.out.below hc)
  replace pr := Lib.hid (pr.out.below hc)
  replace BW := Lib.hid (Buf.then_ BW.out hc)
  clear hc B1 f0 f1 f2 f3 f4 f5 f6 f7 f8 f9 f10
  have hx := R.out.bv.x
  have hy := R.out.bv.y
  have hz := R.out.bv.z
  obtain ⟨r1, r2, r3⟩ : d1 ≤ a1 + 20 ∧ d2 ≤ a2 + 20 ∧ d3 ≤ a3 + 20 := ⟨R.out.s1, R.out.s2, R.out.s3⟩
  obtain ⟨X, hX⟩ : ∃ X : Nat, (X : Int) = d1 - a1 + 1 := ⟨(d1 - a1 + 1).toNat, by omega⟩
  obtain ⟨Y, hY⟩ : ∃ Y : Nat, (Y : Int) = d2 - a2 + 1 := ⟨(d2 - a2 + 1).toNat, by omega⟩
  obtain ⟨Z, hZ⟩ : ∃ Z : Nat, (Z : Int) = d3 - a3 + 1 := ⟨(d3 - a3 + 1).toNat, by omega⟩
  have ALL := Lib.hid (Geo.all_any a1 a2 a3 d1 d2 d3 X Y Z hX hY hZ R.out.bv (by omega) (by omega) (by omega))
  have hmem : Hid (∀ p ∈ Geo.Fs a1 a2 a3 Y Z X, a1 ≤ p.1 ∧ p.1 ≤ d1 ∧ a2 ≤ p.2.1 ∧ p.2.1 ≤ d2 ∧ a3 ≤ p.2.2 ∧ p.2.2 ≤ d3) := Lib.hid fun p hp => by
    obtain ⟨⟨m1, m2⟩, ⟨m3, m4⟩, m5, m6⟩ := Geo.Fs_mem.1 hp
    exact ⟨m1, by omega, m3, by omega, m5, by omega⟩
  have E3 := Lib.hid (Geo.count_all hX hY hZ)
  have hr := Geo.pts_bd R.out.bv
  have hlen : (Geo.Fs a1 a2 a3 Y Z X).length ≤ 1000000 := by
    rw [Geo.Fs_length]
    have h1 : Y * Z ≤ 50 * 50 := Nat.mul_le_mul (by omega) (by omega)
    have h2 : X * (Y * Z) ≤ 50 * (50 * 50) := Nat.mul_le_mul (by omega) h1
    omega
  have hlen0 : 0 < (Geo.Fs a1 a2 a3 Y Z X).length := by
    have := E3.out
    have : 1 ≤ Geo.pts a1 a2 a3 d1 d2 d3 := hr.2.1
    omega
  clear E3 hr hX hY hZ hx hy hz r1 r2 r3
  generalize Geo.Fs a1 a2 a3 Y Z X = l at *
  obtain ⟨f0, f1, f2, f3, f4, f5, f6, f7, f8, f9, f10⟩ := c11 K6.out
  go_wp2_with fail
  with_reducible refine (ALL.out _).mono ?_
  rintro e0 w7 ⟨⟨v, rfl, own⟩, hc⟩
  obtain ⟨g, cap, o, rfl, hgo, hcells, hcap⟩ := own3 own hlen0
  have hcells := Lib.hid hcells
  replace hgo := Lib.hid hgo
  replace K6 := Lib.hid (hb hc K6.out)
  replace tv := Lib.hid (tv.out.below hc)
  replace pr := Lib.hid (pr.out.below hc)
  replace BW := Lib.hid (Buf.then_ BW.out hc)
  clear hc own ALL f0 f1 f2 f3 f4 f5 f6 f7 f8 f9 f10
  have hwl : ((l.length : Nat) : Int) ≤ 1000000 := by omega
  go_wp2_with fail
  go_loopw [38] (fun i wr => ∃ k : Nat, k ≤ l.length ∧ i = .int .i64 k ∧ Hid (wr.heap[b6]? = some (.cells #[.int .i64 a1, .int .i64 a2, .int .i64 a3, .int .i64 d1, .int .i64 d2, .int .i64 d3, .int .i64 s, .slice (some ⟨b1, 0, none⟩) n c1, .slice (some ⟨b2, 0, none⟩) n c2, .slice (some ⟨gp, 0, none⟩) nl cpp, .int .i64 cp] 33 (0, 0))) ∧ Hid (wr.heap[g]? = some o) ∧ Hid (Bound.Wide wr s b1 b2 n lo hi) ∧ Hid (PhR wr gp L) ∧ Hid (Below w.heap.size w wr)) (fun i _ => l.length - (intOf i).toNat)
  case atStart => exact ⟨0, by omega, rfl, K6, hgo, tv, pr, BW⟩
  case round =>
    clear K6 hgo tv pr BW
    obtain ⟨k, hk, rfl, K6, hgo, tv, pr, BW⟩ := hrel
    by_cases hlt : k < l.length
    · have hlt' : (k : Int) < l.length := by omega
      rcases hq : l[k] with ⟨x, y, z⟩
      have mb := hmem.out _ (List.getElem_mem hlt)
      rw [hq] at mb
      obtain ⟨k1, k2, k3, k4, k5, k6⟩ := mb
      simp only at k1 k2 k3 k4 k5 k6
      obtain ⟨c0', c1', c2'⟩ := Row3.cells_get l k (x, y, z) (by rw [List.getElem?_eq_getElem hlt, hq])
      replace c0' := hcells.out wr hgo.out _ _ c0'
      replace c1' := hcells.out wr hgo.out _ _ c1'
      replace c2' := hcells.out wr hgo.out _ _ c2'
      simp only at c0' c1' c2'
      replace hq := Lib.hid hq
      have S := Lib.hid (Sub.pt k1 k2 k3 k4 k5 k6)
      clear k1 k2 k3 k4 k5 k6
      obtain ⟨w8, hw8⟩ : ∃ w8, w8 = wr.alloc (.cells #[.int .i64 x, .int .i64 y, .int .i64 z] 26) := ⟨_, rfl⟩
      have Y8 : Hid (Below wr.heap.size wr w8) := Lib.hid (by rw [hw8]; exact new_block _)
      have N := Lib.hid (show w8.heap[wr.heap.size]? = some (.cells #[.int .i64 x, .int .i64 y, .int .i64 z] 26 (0, 0)) by rw [hw8]; exact heap_alloc_new wr _)
      replace hw8 := Lib.hid hw8
      go_upto_region 9 with fail
      rw [← hw8.out]
      clear hw8 c0' c1' c2'
      generalize wr.heap.size = b8 at N ⊢
      replace K6 := Lib.hid (hb Y8.out K6.out)
      replace hgo := Lib.hid (hb Y8.out hgo.out)
      replace tv := Lib.hid (tv.out.below Y8.out)
      replace pr := Lib.hid (pr.out.below Y8.out)
      replace BW := Lib.hid (Buf.then_ BW.out Y8.out)
      clear Y8
      have A1 := Lib.hid (AT.out w8 tv.out pr.out x y z S.out)
      have A2 := Lib.hid fun w' h1 h2 => BD.out w' h1 h2 x y z x y z S.out
      have A3 := LE.out x y z x y z S.out
      generalize mf s lo hi cp x y z x y z L = res at *
      obtain ⟨t, v⟩ := res
      dsimp only at A1 A2 A3
      obtain ⟨f0, f1, f2, f3, f4, f5, f6, f7, f8, f9, f10⟩ := c11 K6.out
      obtain ⟨y0, y1, y2⟩ := cell3 N.out
      go_wp2_with fail
      with_reducible refine (A1.out).mono ?_
      rintro e0 w9 ⟨rfl, hc⟩
      replace K6 := Lib.hid (hb hc K6.out)
      replace N := Lib.hid (hb hc N.out)
      replace hgo := Lib.hid (hb hc hgo.out)
      replace tv := Lib.hid (tv.out.below hc)
      replace pr := Lib.hid (pr.out.below hc)
      replace BW := Lib.hid (Buf.then_ BW.out hc)
      clear hc A1 f0 f1 f2 f3 f4 f5 f6 f7 f8 f9 f10 y0 y1 y2
      have ONE := Lib.hid fun w => Bound.one_any x y z w
      go_wp2_with fail
      refine Buf.region_calm w9 (by kernel_rfl) (by kernel_rfl) (Below.refl _ _) ?_
      repeat (go_big_quiet_step ((intro hC; first
        | (go_at_call 23; (with_reducible exact Buf.calm hC (ONE.out _)))
        | (go_at_call 21; (with_reducible exact Buf.calm hC (A2.out _ (tv.out.below hC) (pr.out.below hC))))
        | rfl
        | (obtain ⟨y0, y1, y2⟩ := cell3 (hb hC N.out); simp only [y0, y1, y2, Result.andThen_ok]; first | exact ⟨trivial, rfl⟩ | rfl)
        | (obtain ⟨f0, f1, f2, f3, f4, f5, f6, f7, f8, f9, f10⟩ := c11 (hb hC K6.out); simp only [f0, f1, f2, f3, f4, f5, f6, f7, f8, f9, f10, Result.andThen_ok]; first | exact ⟨trivial, rfl⟩ | rfl))))
      refine wpQuiet_nil ?_
      intro w10 hc
      replace K6 := Lib.hid (hb hc K6.out)
      replace hgo := Lib.hid (hb hc hgo.out)
      replace tv := Lib.hid (tv.out.below hc)
      replace pr := Lib.hid (pr.out.below hc)
      replace BW := Lib.hid (Buf.then_ BW.out hc)
      clear hc N A2 ONE
      go_wp2_with fail
      go_roundw
      case rel => exact ⟨k + 1, by omega, by go_num, K6, hgo, tv, pr, BW⟩
      case measure => simp [intOf]; omega
    · obtain rfl : k = l.length := by omega
      clear hlt hmem hcells hgo
      by_cases h2 : 2 ≤ Geo.pts a1 a2 a3 d1 d2 d3
      · obtain ⟨u1, u2, u3, u4, u5, u6, v1, v2, v3, v4, v5, v6, HS, hv⟩ := Geo.split_two a1 a2 a3 d1 d2 d3 R.out.bv h2
        have SU := Lib.hid (Sub.mk (a := a1) (b := a2) (c := a3) (d := d1) (e := d2) (f := d3) hv.wx.1 hv.wx.2.2.1 hv.wx.2.2.2.2.1 hv.bx.x hv.bx.y hv.bx.z hv.wx.2.1 hv.wx.2.2.2.1 hv.wx.2.2.2.2.2)
        have SV := Lib.hid (Sub.mk (a := a1) (b := a2) (c := a3) (d := d1) (e := d2) (f := d3) hv.wy.1 hv.wy.2.2.1 hv.wy.2.2.2.2.1 hv.bY.x hv.bY.y hv.bY.z hv.wy.2.1 hv.wy.2.2.2.1 hv.wy.2.2.2.2.2)
        have BU := Lib.hid fun w' h1 h2 => BD.out w' h1 h2 _ _ _ _ _ _ SU.out
        have BV := Lib.hid fun w' h1 h2 => BD.out w' h1 h2 _ _ _ _ _ _ SV.out
        have LU := LE.out _ _ _ _ _ _ SU.out
        have LV := LE.out _ _ _ _ _ _ SV.out
        generalize (mf s lo hi cp u1 u2 u3 u4 u5 u6 L).2 = vu at *
        generalize (mf s lo hi cp v1 v2 v3 v4 v5 v6 L).2 = vv at *
        replace HS := Lib.hid HS
        clear hv h2
        obtain ⟨f0, f1, f2, f3, f4, f5, f6, f7, f8, f9, f10⟩ := c11 K6.out
        go_wp2_with fail
        with_reducible refine (HS.out _).mono ?_
        rintro e0 w11 ⟨rfl, hc⟩
        replace K6 := Lib.hid (hb hc K6.out)
        replace tv := Lib.hid (tv.out.below hc)
        replace pr := Lib.hid (pr.out.below hc)
        replace BW := Lib.hid (Buf.then_ BW.out hc)
        clear hc f0 f1 f2 f3 f4 f5 f6 f7 f8 f9 f10
        obtain ⟨w12, hw12⟩ : ∃ w12, w12 = (w11.alloc (.cells #[.int .i64 u1, .int .i64 u2, .int .i64 u3, .int .i64 u4, .int .i64 u5, .int .i64 u6] 28)).alloc (.cells #[.int .i64 v1, .int .i64 v2, .int .i64 v3, .int .i64 v4, .int .i64 v5, .int .i64 v6] 28) := ⟨_, rfl⟩
        have Y12 : Hid (Below w11.heap.size w11 w12) := Lib.hid (by rw [hw12]; exact (new_block _).alloc (by simp) _)
        have eS : (w11.alloc (.cells #[.int .i64 u1, .int .i64 u2, .int .i64 u3, .int .i64 u4, .int .i64 u5, .int .i64 u6] 28)).heap.size = w11.heap.size + 1 := by simp
        have N1 := Lib.hid (show w12.heap[w11.heap.size]? = some (.cells #[.int .i64 u1, .int .i64 u2, .int .i64 u3, .int .i64 u4, .int .i64 u5, .int .i64 u6] 28 (0, 0)) by rw [hw12]; exact (heap_alloc_old _ _ (by simp)).trans (heap_alloc_new w11 _))
        have N2 := Lib.hid (show w12.heap[w11.heap.size + 1]? = some (.cells #[.int .i64 v1, .int .i64 v2, .int .i64 v3, .int .i64 v4, .int .i64 v5, .int .i64 v6] 28 (0, 0)) by rw [hw12, ← eS]; exact heap_alloc_new _ _)
        go_upto_region 15 with fail
        clear eS
        rw [← hw12]
        clear hw12
        replace K6 := Lib.hid (hb Y12.out K6.out)
        replace tv := Lib.hid (tv.out.below Y12.out)
        replace pr := Lib.hid (pr.out.below Y12.out)
        replace BW := Lib.hid (Buf.then_ BW.out Y12.out)
        clear Y12
        obtain ⟨f0, f1, f2, f3, f4, f5, f6, f7, f8, f9, f10⟩ := c11 K6.out
        obtain ⟨y0, y1, y2, y3, y4, y5⟩ := cell6 N1.out
        go_wp2_with fail
        with_reducible refine (BU.out _ tv.out pr.out).mono ?_
        rintro e0 w13 ⟨rfl, hc⟩
        clear f0 f1 f2 f3 f4 f5 f6 f7 f8 f9 f10 y0 y1 y2 y3 y4 y5 N1
        replace K6 := Lib.hid (hb hc K6.out)
        replace N2 := Lib.hid (hb hc N2.out)
        replace tv := Lib.hid (tv.out.below hc)
        replace pr := Lib.hid (pr.out.below hc)
        replace BW := Lib.hid (Buf.then_ BW.out hc)
        clear hc
        obtain ⟨f0, f1, f2, f3, f4, f5, f6, f7, f8, f9, f10⟩ := c11 K6.out
        obtain ⟨y0, y1, y2, y3, y4, y5⟩ := cell6 N2.out
        go_wp2_with fail
        with_reducible refine (BV.out _ tv.out pr.out).mono ?_
        rintro e0 w14 ⟨rfl, hc⟩
        clear f0 f1 f2 f3 f4 f5 f6 f7 f8 f9 f10 y0 y1 y2 y3 y4 y5 N2 K6 tv pr
        replace BW := Lib.hid (Buf.then_ BW.out hc)
        clear hc BU BV HS SU SV
        go_wp2_with (go_at_call 19; refine (awake_any _).mono ?_; rintro e0 w15 ⟨rfl, hc⟩; replace BW := Lib.hid (Buf.then_ BW.out hc); clear hc)
        go_ret
        exact ⟨rfl, BW.out⟩
      · obtain ⟨rfl, rfl, rfl⟩ := Geo.pts_one R.out.bv (by omega)
        have HS := Lib.hid fun w => Geo.split_no a1 a2 a3 R.out.bv w
        clear h2
        obtain ⟨f0, f1, f2, f3, f4, f5, f6, f7, f8, f9, f10⟩ := c11 K6.out
        go_wp2_with fail
        with_reducible refine (HS.out _).mono ?_
        rintro e0 w11 ⟨rfl, hc⟩
        clear f0 f1 f2 f3 f4 f5 f6 f7 f8 f9 f10
        replace BW := Lib.hid (Buf.then_ (Buf.then_ BW.out hc) (Trav.bel2 (.cells #[.int .i64 0, .int .i64 0, .int .i64 0, .int .i64 0, .int .i64 0, .int .i64 0] 28) (.cells #[.int .i64 0, .int .i64 0, .int .i64 0, .int .i64 0, .int .i64 0, .int .i64 0] 28)))
        clear hc
        go_wp2_with fail
        refine (awake_any _).mono ?_
        rintro e0 w15 ⟨rfl, hc⟩
        replace BW := Lib.hid (Buf.then_ BW.out hc)
        clear hc
        go_wp2_with fail
        go_ret
        exact ⟨rfl, BW.out⟩
end Mis
namespace Laws
theorem misfitBound_walk (a0 : Option Addr) (len0 cap0 : Nat) (z0 : List Int) (w : World) (w0 : Buf.IsRow .i64 w a0 len0 cap0 z0) :
    Calls Try.prog 5 #[.slice a0 len0 cap0] w fun e w' => e = .returned (.bool true) ∧ Below w.heap.size w w' := Mis.misfitBound_any a0 len0 cap0 z0 w w0
end Laws
end Go.Proofs.Ythjanffepglcfaa
