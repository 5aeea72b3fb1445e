/- sane of layer 11. -/
import Derived.Test.YtfmhfhggogjbkaaRcvD
set_option linter.unusedVariables false
set_option linter.unusedSimpArgs false
namespace Go.Proofs.Ytfmhfhggogjbkaa
open Go.RowKit Dice Wi
namespace Rcv
open Spn
theorem Rc.ext {w : World} {vg vl : Value} {f g f' g' : Int → Bool} (h : Rc w vg vl f g) (e : ∀ x, f x = f' x) (e' : ∀ x, g x = g' x) : Rc w vg vl f' g' := by
  obtain rfl : f = f' := funext e
  obtain rfl : g = g' := funext e'
  exact h
theorem Rc.form {w : World} {vg vl : Value} {f g : Int → Bool} (h : Rc w vg vl f g) : ∃ a n c a' n' c', vg = .slice a n c ∧ vl = .slice a' n' c' := by
  obtain ⟨ga, gn, gc, rfl, _⟩ := Sv.form h.got
  obtain ⟨la, ln, lc, rfl, _⟩ := Sv.form h.lost
  exact ⟨_, _, _, _, _, _, rfl, rfl⟩
/-- A store of a whole receiver elsewhere. -/
theorem set_two {w : World} {p : Nat} {a a' : Option Addr} {n c n' c' : Nat} {t : TypeId} (hp : w.heap[p]? = some (.cells #[.slice a n c, .slice a' n' c'] t (0, 0))) (b b' : Option Addr) (m d m' d' : Nat) :
    w.setRow p #[.slice b m d, .slice b' m' d'] = (w.setCell ⟨p, 0, none⟩ (.slice b m d)).setCell ⟨p, 1, none⟩ (.slice b' m' d') := by
  have q := (heap_setCell_same w p 0 _ _ (.slice b m d) hp).trans rfl
  rw [setCell_eq_setRow (w.setCell ⟨p, 0, none⟩ (.slice b m d)) p 1 _ _ (0, 0) (.slice b' m' d') q, setCell_eq_setRow w p 0 _ _ (0, 0) (.slice b m d) hp, setRow_setRow]
  rfl
theorem Rc.set {w : World} {vg vl : Value} {f g : Int → Bool} (h : Rc w vg vl f g) {p : Nat} {a a' : Option Addr} {n c n' c' : Nat} {t : TypeId} (hp : w.heap[p]? = some (.cells #[.slice a n c, .slice a' n' c'] t (0, 0))) (b b' : Option Addr) (m d m' d' : Nat) :
    Rc (w.setRow p #[.slice b m d, .slice b' m' d']) vg vl f g := by
  rw [set_two hp]
  have q := (heap_setCell_same w p 0 _ _ (.slice b m d) hp).trans rfl
  exact ⟨Rcv.Sv.set (Rcv.Sv.set h.got hp (o := 0) _) q (o := 1) _, Rcv.Sv.set (Rcv.Sv.set h.lost hp (o := 0) _) q (o := 1) _, h.apart⟩
theorem sv_one {w : World} {b : Nat} {q t : Int} (h : w.heap[b]? = some (.cells #[.int .i64 q, .int .i64 t] 49 (0, 0))) (q0 : 0 ≤ q) (hq : q < t) (t9 : t ≤ 64) : Sv w (.slice (some ⟨b, 0, none⟩) 1 1) (fun x => decide (q ≤ x ∧ x < t)) 32 := by
  refine ⟨[(q, t)], .inr ⟨b, 1, rfl, by simp, (Array.getElem?_eq_some_iff.1 h).1, fun k p hp => ?_⟩, ⟨canon_cons.2 ⟨hq, by simp, Canon.nil⟩, fun x => by simp [hasB]⟩, by simp, fun p hp => ?_⟩
  · cases k with
    | zero => simp at hp; subst hp; exact c2 h
    | succ k => simp at hp
  · simp at hp; subst hp; exact ⟨q0, t9⟩
def F0 (k : Nat) : Int → Bool := fun x => decide (x = 0 ∧ 1 ≤ k ∨ x = 1 ∧ 2 ≤ k ∨ x = 4 ∧ 3 ≤ k)
set_option maxHeartbeats 8000000 in
set_option maxRecDepth 100000 in
theorem sane_any (w : World) :
    Calls Try.prog 37 #[] w fun e w' => e = .returned (.bool true) ∧ Below w.heap.size w w' := by
  go_enter Try.func37, Try.ntmps37
  go_wp2_with fail
  refine (new_any _).mono ?_
  rintro e w1 ⟨rfl, hb⟩
  have B1 := Lib.hid hb
  clear hb
  go_upto_region 4 with (first | ((with_reducible refine Mid.str 46 (.tmp 1) (.tmp 8) w1.heap.size 46 #[.slice none 0 0, .slice none 0 0] #[.slice none 0 0, .slice none 0 0] (heap_alloc_new w1 _) ?_ ?_ ?_ ?_ ?_ ?_ ?_ ?_); (· rfl); (· rfl); (· first | rfl | simp [Act.eval]); (· first | rfl | simp [Act.eval]); (· kernel_rfl); (· rfl); (· simp [Value.oneCell'])) | fail)
  obtain ⟨w2, hw2⟩ : ∃ w2, w2 = ((w1.alloc (.cells #[.slice none 0 0, .slice none 0 0] 46)).setRow w1.heap.size #[.slice none 0 0, .slice none 0 0]).alloc (.cells #[.int .i64 0, .int .i64 1, .int .i64 4] 3) := ⟨_, rfl⟩
  have e1 : ((w1.alloc (.cells #[.slice none 0 0, .slice none 0 0] 46)).setRow w1.heap.size #[.slice none 0 0, .slice none 0 0]).heap.size = w1.heap.size + 1 := by simp
  have P2 : w2.heap[w1.heap.size]? = some (.cells #[.slice none 0 0, .slice none 0 0] 46 (0, 0)) := by
    rw [hw2]; exact hop (new_block _) (setRow_heap _ _ _ _ _ _ (heap_alloc_new w1 _))
  have L2 : w2.heap[w1.heap.size + 1]? = some (.cells #[.int .i64 0, .int .i64 1, .int .i64 4] 3 (0, 0)) := by
    rw [hw2, ← e1]; exact heap_alloc_new _ _
  have B2 : Below w1.heap.size w1 w2 := by
    rw [hw2]; exact (Mid.below_row (new_block _) _ _ (Nat.le_refl _)).alloc (by simp) _
  rw [← hw2]
  have R2 := Lib.hid (Rc.ext (f' := F0 0) (rc_new w2) (fun x => by simp [F0]) (fun x => rfl))
  obtain ⟨bb, hbb⟩ : ∃ bb, bb = w1.heap.size := ⟨_, rfl⟩
  rw [← hbb] at P2 L2 ⊢
  have hbw : w.heap.size ≤ bb := by rw [hbb]; exact B1.out.size
  have BW := Lib.hid (Buf.then_ B1.out B2)
  have LL := Lib.hid L2
  replace P2 := Lib.hid P2
  clear B1 B2 e1 L2
  replace hw2 := Lib.hid hw2
  replace hbb := Lib.hid hbb
  go_loopw [11] (fun i wr => ∃ (k : Nat) (a a' : Option Addr) (n c n' c' : Nat), k ≤ 3 ∧ i = .int .i64 k ∧ Hid (wr.heap[bb]? = some (.cells #[.slice a n c, .slice a' n' c'] 46 (0, 0))) ∧ Hid (Rc wr (.slice a n c) (.slice a' n' c') (F0 k) (fun _ => false)) ∧ Hid (Below w.heap.size w wr) ∧ Hid (wr.heap[bb + 1]? = some (.cells #[.int .i64 0, .int .i64 1, .int .i64 4] 3 (0, 0)))) (fun i _ => (3 - intOf i).toNat)
  case atStart => exact ⟨0, _, _, _, _, _, _, by omega, rfl, P2, R2, BW, LL⟩
  case round =>
    clear P2 R2 BW LL
    obtain ⟨k, a, a', n, c, n', c', hk, rfl, P2, R2, BW, LL⟩ := hrel
    have hk' : k = 0 ∨ k = 1 ∨ k = 2 ∨ k = 3 := by omega
    rcases hk' with rfl | rfl | rfl | rfl
    · rw [show (((0 : Nat) : Int)) = 0 from rfl]
      have cl := cell_of_row _ _ 0 _ _ _ LL.out
      simp only [List.getElem?_toArray, List.getElem?_cons_zero, List.getElem?_cons_succ] at cl
      go_wp2_with (first | ((with_reducible refine Mid.ldrg 46 (.tmp 1) bb 46 #[.slice a n c, .slice a' n' c'] P2.out ?_ ?_ ?_ ?_ ?_ ?_); (· rfl); (· rfl); (· first | rfl | simp [Act.eval]); (· exact ⟨_, rfl, rfl⟩); (· kernel_rfl)) | fail)
      clear cl
      refine (accept_any R2.out 0 (by omega) (by omega)).mono ?_
      rintro e w3 ⟨⟨vg, vl, rfl, R3⟩, hb⟩
      obtain ⟨xa, xn, xc, ya, yn, yc, rfl, rfl⟩ := Rc.form R3
      have P3 := hop hb P2.out
      have R4 := Lib.hid ((R3.set P3 xa ya xn xc yn yc).ext (f' := F0 (0 + 1)) (g' := fun _ => false) (fun x => by simp only [F0]; rw [Bool.eq_iff_iff]; simp [or_assoc]) (fun x => by simp))
      have P4 := Lib.hid (setRow_heap w3 bb _ #[.slice xa xn xc, .slice ya yn yc] _ _ P3)
      have L4 := Lib.hid ((setRow_other w3 bb (bb + 1) #[.slice xa xn xc, .slice ya yn yc] (by omega)).trans (hop hb LL.out))
      have B4 := Lib.hid (Mid.below_row (Buf.then_ BW.out hb) bb #[.slice xa xn xc, .slice ya yn yc] hbw)
      clear R3 hb R2 P2 LL BW
      go_wp2_with (first | ((with_reducible refine Mid.str 46 (.tmp 1) (.tmp 19) bb 46 #[.slice a n c, .slice a' n' c'] #[.slice xa xn xc, .slice ya yn yc] P3 ?_ ?_ ?_ ?_ ?_ ?_ ?_ ?_); (· rfl); (· rfl); (· first | rfl | simp [Act.eval]); (· first | rfl | simp [Act.eval]); (· kernel_rfl); (· rfl); (· simp [Value.oneCell'])) | fail)
      exact ⟨⟨0 + 1, _, _, _, _, _, _, by omega, rfl, P4, R4, B4, L4⟩, by simp [intOf]⟩
    · rw [show (((1 : Nat) : Int)) = 1 from rfl]
      have cl := cell_of_row _ _ 1 _ _ _ LL.out
      simp only [List.getElem?_toArray, List.getElem?_cons_zero, List.getElem?_cons_succ] at cl
      go_wp2_with (first | ((with_reducible refine Mid.ldrg 46 (.tmp 1) bb 46 #[.slice a n c, .slice a' n' c'] P2.out ?_ ?_ ?_ ?_ ?_ ?_); (· rfl); (· rfl); (· first | rfl | simp [Act.eval]); (· exact ⟨_, rfl, rfl⟩); (· kernel_rfl)) | fail)
      clear cl
      refine (accept_any R2.out 1 (by omega) (by omega)).mono ?_
      rintro e w3 ⟨⟨vg, vl, rfl, R3⟩, hb⟩
      obtain ⟨xa, xn, xc, ya, yn, yc, rfl, rfl⟩ := Rc.form R3
      have P3 := hop hb P2.out
      have R4 := Lib.hid ((R3.set P3 xa ya xn xc yn yc).ext (f' := F0 (1 + 1)) (g' := fun _ => false) (fun x => by simp only [F0]; rw [Bool.eq_iff_iff]; simp [or_assoc]) (fun x => by simp))
      have P4 := Lib.hid (setRow_heap w3 bb _ #[.slice xa xn xc, .slice ya yn yc] _ _ P3)
      have L4 := Lib.hid ((setRow_other w3 bb (bb + 1) #[.slice xa xn xc, .slice ya yn yc] (by omega)).trans (hop hb LL.out))
      have B4 := Lib.hid (Mid.below_row (Buf.then_ BW.out hb) bb #[.slice xa xn xc, .slice ya yn yc] hbw)
      clear R3 hb R2 P2 LL BW
      go_wp2_with (first | ((with_reducible refine Mid.str 46 (.tmp 1) (.tmp 19) bb 46 #[.slice a n c, .slice a' n' c'] #[.slice xa xn xc, .slice ya yn yc] P3 ?_ ?_ ?_ ?_ ?_ ?_ ?_ ?_); (· rfl); (· rfl); (· first | rfl | simp [Act.eval]); (· first | rfl | simp [Act.eval]); (· kernel_rfl); (· rfl); (· simp [Value.oneCell'])) | fail)
      exact ⟨⟨1 + 1, _, _, _, _, _, _, by omega, rfl, P4, R4, B4, L4⟩, by simp [intOf]⟩
    · rw [show (((2 : Nat) : Int)) = 2 from rfl]
      have cl := cell_of_row _ _ 2 _ _ _ LL.out
      simp only [List.getElem?_toArray, List.getElem?_cons_zero, List.getElem?_cons_succ] at cl
      go_wp2_with (first | ((with_reducible refine Mid.ldrg 46 (.tmp 1) bb 46 #[.slice a n c, .slice a' n' c'] P2.out ?_ ?_ ?_ ?_ ?_ ?_); (· rfl); (· rfl); (· first | rfl | simp [Act.eval]); (· exact ⟨_, rfl, rfl⟩); (· kernel_rfl)) | fail)
      clear cl
      refine (accept_any R2.out 4 (by omega) (by omega)).mono ?_
      rintro e w3 ⟨⟨vg, vl, rfl, R3⟩, hb⟩
      obtain ⟨xa, xn, xc, ya, yn, yc, rfl, rfl⟩ := Rc.form R3
      have P3 := hop hb P2.out
      have R4 := Lib.hid ((R3.set P3 xa ya xn xc yn yc).ext (f' := F0 (2 + 1)) (g' := fun _ => false) (fun x => by simp only [F0]; rw [Bool.eq_iff_iff]; simp [or_assoc]) (fun x => by simp))
      have P4 := Lib.hid (setRow_heap w3 bb _ #[.slice xa xn xc, .slice ya yn yc] _ _ P3)
      have L4 := Lib.hid ((setRow_other w3 bb (bb + 1) #[.slice xa xn xc, .slice ya yn yc] (by omega)).trans (hop hb LL.out))
      have B4 := Lib.hid (Mid.below_row (Buf.then_ BW.out hb) bb #[.slice xa xn xc, .slice ya yn yc] hbw)
      clear R3 hb R2 P2 LL BW
      go_wp2_with (first | ((with_reducible refine Mid.str 46 (.tmp 1) (.tmp 19) bb 46 #[.slice a n c, .slice a' n' c'] #[.slice xa xn xc, .slice ya yn yc] P3 ?_ ?_ ?_ ?_ ?_ ?_ ?_ ?_); (· rfl); (· rfl); (· first | rfl | simp [Act.eval]); (· first | rfl | simp [Act.eval]); (· kernel_rfl); (· rfl); (· simp [Value.oneCell'])) | fail)
      exact ⟨⟨2 + 1, _, _, _, _, _, _, by omega, rfl, P4, R4, B4, L4⟩, by simp [intOf]⟩
    · rw [show (((3 : Nat) : Int)) = 3 from rfl]
      clear LL
      go_wp2_with (first | ((with_reducible refine Mid.ldrg 46 (.tmp 1) bb 46 #[.slice a n c, .slice a' n' c'] P2.out ?_ ?_ ?_ ?_ ?_ ?_); (· rfl); (· rfl); (· first | rfl | simp [Act.eval]); (· exact ⟨_, rfl, rfl⟩); (· kernel_rfl)) | fail)
      refine (missing_any R2.out 5 (by omega) (by omega)).mono ?_
      rintro e w3 ⟨⟨v, t, rfl, TP, SV⟩, hb⟩
      obtain rfl : t = 5 := by
        obtain ⟨t1, t2, t3, t4, t5, t6⟩ := TP
        rcases t6 with e | e | e | e
        · exact e
        · omega
        · simp [F0] at e; omega
        · cases e
      clear TP
      obtain ⟨ma, mn, mc, rfl, _⟩ := Sv.form SV
      have SM := Lib.hid (Rcv.Sv.ext SV (g := fun x => decide (2 ≤ x ∧ x < 4)) (fun x => by simp only [F0]; rw [Bool.eq_iff_iff]; simp; omega))
      replace P2 := Lib.hid (hop hb P2.out)
      replace R2 := Lib.hid (R2.out.keep hb)
      replace BW := Lib.hid (Buf.then_ BW.out hb)
      clear hb SV
      go_wp2_with (first | ((with_reducible refine Mid.ldrg 46 (.tmp 1) bb 46 #[.slice a n c, .slice a' n' c'] P2.out ?_ ?_ ?_ ?_ ?_ ?_); (· rfl); (· rfl); (· first | rfl | simp [Act.eval]); (· exact ⟨_, rfl, rfl⟩); (· kernel_rfl)) | fail)
      refine (lose_any R2.out 3 (by omega) (by omega)).mono ?_
      rintro e w4 ⟨⟨vg, vl, rfl, R3⟩, hb⟩
      obtain ⟨xa, xn, xc, ya, yn, yc, rfl, rfl⟩ := Rc.form R3
      have SL := Lib.hid (Rcv.Sv.ext R3.lost (g := fun x => decide (2 ≤ x ∧ x < 3)) (fun x => by simp only [F0]; rw [Bool.eq_iff_iff]; simp; omega))
      replace P2 := Lib.hid (hop hb P2.out)
      replace R2 := Lib.hid (R2.out.keep hb)
      replace BW := Lib.hid (Buf.then_ BW.out hb)
      replace SM := Lib.hid (SM.out.keep hb)
      clear hb R3
      go_upto_region 12 with (first | ((with_reducible refine Mid.str 46 (.tmp 6) (.tmp 33) w4.heap.size 46 #[.slice none 0 0, .slice none 0 0] #[.slice xa xn xc, .slice ya yn yc] (heap_alloc_new w4 _) ?_ ?_ ?_ ?_ ?_ ?_ ?_ ?_); (· rfl); (· rfl); (· first | rfl | simp [Act.eval]); (· first | rfl | simp [Act.eval]); (· kernel_rfl); (· rfl); (· simp [Value.oneCell'])) | fail)
      obtain ⟨w5, hw5⟩ : ∃ w5, w5 = (w4.alloc (.cells #[.slice none 0 0, .slice none 0 0] 46)).setRow w4.heap.size #[.slice xa xn xc, .slice ya yn yc] := ⟨_, rfl⟩
      have BX : Below w4.heap.size w4 w5 := by rw [hw5]; exact Mid.below_row (new_block _) _ _ (Nat.le_refl _)
      have P5 : w5.heap[w4.heap.size]? = some (.cells #[.slice xa xn xc, .slice ya yn yc] 46 (0, 0)) := by rw [hw5]; exact setRow_heap _ _ _ _ _ _ (heap_alloc_new w4 _)
      rw [← hw5]
      replace P2 := Lib.hid (hop BX P2.out)
      replace R2 := Lib.hid (R2.out.keep BX)
      replace BW := Lib.hid (Buf.then_ BW.out BX)
      replace SM := Lib.hid (SM.out.keep BX)
      replace SL := Lib.hid (SL.out.keep BX)
      replace P5 := Lib.hid P5
      generalize w4.heap.size = b4 at *
      replace hw5 := Lib.hid hw5
      clear BX
      have S1 := Lib.hid (same_sv (SM.out.keep (new_block (.cells #[.int .i64 2, .int .i64 4] 49))) (sv_one (heap_alloc_new w5 (.cells #[.int .i64 2, .int .i64 4] 49)) (by omega) (by omega) (by omega)) (fun x => rfl) (by omega))
      go_wp2_with fail
      refine S1.out.mono ?_
      rintro e w6 ⟨rfl, hb⟩
      have BX := Buf.then_ (new_block (w := w5) (.cells #[.int .i64 2, .int .i64 4] 49)) hb
      replace P2 := Lib.hid (hop BX P2.out)
      replace P5 := Lib.hid (hop BX P5.out)
      replace R2 := Lib.hid (R2.out.keep BX)
      replace BW := Lib.hid (Buf.then_ BW.out BX)
      replace SL := Lib.hid (SL.out.keep BX)
      clear BX hb S1 SM
      go_wp2_with (first | ((with_reducible refine Mid.ldrg 46 (.tmp 1) bb 46 #[.slice a n c, .slice a' n' c'] P2.out ?_ ?_ ?_ ?_ ?_ ?_); (· rfl); (· rfl); (· first | rfl | simp [Act.eval]); (· exact ⟨_, rfl, rfl⟩); (· kernel_rfl)) | fail)
      refine (settled_any R2.out).mono ?_
      rintro e w7 ⟨⟨s, rfl, s0, s9, s1, s2⟩, hb⟩
      obtain rfl : s = 2 := by
        have h1 : ¬ (2 < s) := fun h => by have := s1 2 (by omega) h; simp [F0] at this
        have h2 : s ≠ 0 := fun h => by subst h; simp [F0] at s2
        have h3 : s ≠ 1 := fun h => by subst h; simp [F0] at s2
        omega
      replace P5 := Lib.hid (hop hb P5.out)
      replace BW := Lib.hid (Buf.then_ BW.out hb)
      replace SL := Lib.hid (SL.out.keep hb)
      clear hb s1 s2 s0 s9
      obtain ⟨k0, k1⟩ := c2 P5.out
      have S2 := Lib.hid (same_sv (SL.out.keep (new_block (.cells #[.int .i64 2, .int .i64 3] 49))) (sv_one (heap_alloc_new w7 (.cells #[.int .i64 2, .int .i64 3] 49)) (by omega) (by omega) (by omega)) (fun x => rfl) (by omega))
      go_wp2_with fail
      refine S2.out.mono ?_
      rintro e w8 ⟨rfl, hb⟩
      replace BW := Lib.hid (Buf.then_ (Buf.then_ BW.out (new_block (w := w7) (.cells #[.int .i64 2, .int .i64 3] 49))) hb)
      clear hb k0 k1
      go_wp2_with fail
      go_ret
      exact ⟨rfl, BW.out⟩
end Rcv
end Go.Proofs.Ytfmhfhggogjbkaa
