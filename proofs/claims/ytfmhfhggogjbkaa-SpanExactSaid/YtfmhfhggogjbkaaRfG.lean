/- The reference's Cut, Same of two receivers, receiver.Request. -/
import Derived.Test.YtfmhfhggogjbkaaRfEM
import Derived.Test.YtfmhfhggogjbkaaRcvE
set_option linter.unusedVariables false
set_option linter.unusedSimpArgs false
namespace Go.Proofs.Ytfmhfhggogjbkaa
open Go.RowKit Dice Wi
namespace Spn
open Sp (cells2 cells2_snoc cells2_get Spans own_kept own_below own_mono own_shape)
theorem canon_one {x y : Int} (h : x < y) : Canon [(x, y)] := canon_cons.2 ⟨h, fun p hp => (by cases hp), Canon.nil⟩
set_option maxHeartbeats 2000000 in
theorem refcut_canon {w : World} {v : Value} {A : LP} (x y : Int) (h : Its w v A) (cA : Canon A) (iA : Inside A 0 64) (h9 : A.length ≤ 100) (hxy : x < y) (x0 : 0 ≤ x) (y9 : y ≤ 64) :
    Calls Try.prog 30 #[v, .int .i64 x, .int .i64 y] w fun e w' => (∃ r N, e = .returned r ∧ Spans w' w.heap.size r N ∧ Is N (fun z => hasB A z && decide (x ≤ z ∧ z < y)) ∧ N.length ≤ 32) ∧ Below w.heap.size w w' := by
  have H := Lib.hid h
  have CA := Lib.hid cA
  have IA := Lib.hid iA
  clear h cA iA
  have W1 := Lib.hid (new_block (w := w) (.cells #[.int .i64 x, .int .i64 y] 49))
  have K := c2 (heap_alloc_new w (.cells #[.int .i64 x, .int .i64 y] 49))
  have I2 : Hid (Its (w.alloc (.cells #[.int .i64 x, .int .i64 y] 49)) (.slice (some ⟨w.heap.size, 0, none⟩) 1 1) [(x, y)]) := Lib.hid (.inr ⟨_, 1, rfl, Nat.le_refl _, by simp, fun k p hp => by
    have hk : k = 0 := by have := (List.getElem?_eq_some_iff.1 hp).1; simp at this; omega
    subst hk
    simp at hp
    subst hp
    exact K⟩)
  have C := Lib.hid (refmeet_canon (H.out.keep W1.out) I2.out CA.out (canon_one hxy) IA.out (fun p hp => by simp at hp; subst hp; exact ⟨x0, y9⟩) (by omega) (by simp))
  clear K
  go_enter Try.func30, Try.ntmps30
  go_wp2_with (go_at_call 19; with_reducible refine C.out.mono ?_; rintro e w2 ⟨⟨r, N, rfl, O, I, hl⟩, b⟩)
  go_ret
  exact ⟨⟨_, N, rfl, own_mono O W1.out.size, I.congr fun z => by simp [hasB_cons, hasB_nil], hl⟩, Buf.then_ W1.out b⟩
end Spn
namespace Rcv
open Spn
set_option maxHeartbeats 2000000 in
theorem refsame11_any {w : World} {vg vl ug ul : Value} {f g : Int → Bool} (h : Rc w vg vl f g) (k : Rc w ug ul f g) :
    Calls Try.prog 43 #[.agg #[vg, vl], .agg #[ug, ul]] w fun e w' => e = .returned (.bool true) ∧ Below w.heap.size w w' := by
  obtain ⟨ga, gn, gc, la, ln, lc, rfl, rfl⟩ := Rc.form h
  obtain ⟨ga', gn', gc', la', ln', lc', rfl, rfl⟩ := Rc.form k
  obtain ⟨⟨N1, t1, i1, l1, _⟩, ⟨N2, t2, i2, l2, _⟩, _⟩ := h
  obtain ⟨⟨M1, s1, j1, _, _⟩, ⟨M2, s2, j2, _, _⟩, _⟩ := k
  obtain rfl := Is.unique i1 j1
  obtain rfl := Is.unique i2 j2
  have S1 := Lib.hid fun (w' : World) (h' : Below w.heap.size w w') => same_yes (t1.keep h') (s1.keep h') (by omega)
  have S2 := Lib.hid fun (w' : World) (h' : Below w.heap.size w w') => same_yes (t2.keep h') (s2.keep h') (by omega)
  clear t1 t2 s1 s2 i1 i2 j1 j2 l1 l2
  go_enter Try.func43, Try.ntmps43
  have W1 := Lib.hid (Buf.then_ (new_block (w := w) (.cells #[.slice ga gn gc, .slice la ln lc] 46)) (new_block (.cells #[.slice ga' gn' gc', .slice la' ln' lc'] 46)))
  obtain ⟨wb, hwb⟩ : ∃ wb, wb = (w.alloc (.cells #[.slice ga gn gc, .slice la ln lc] 46)).alloc (.cells #[.slice ga' gn' gc', .slice la' ln' lc'] 46) := ⟨_, rfl⟩
  have P1 : Hid (wb.heap[w.heap.size]? = some (.cells #[.slice ga gn gc, .slice la ln lc] 46 (0, 0))) := Lib.hid (by rw [hwb]; exact hop (new_block _) (heap_alloc_new w _))
  have P2 : Hid (wb.heap[w.heap.size + 1]? = some (.cells #[.slice ga' gn' gc', .slice la' ln' lc'] 46 (0, 0))) := Lib.hid (by rw [hwb, show w.heap.size + 1 = (w.alloc (.cells #[.slice ga gn gc, .slice la ln lc] 46)).heap.size by simp]; exact heap_alloc_new _ _)
  rw [← hwb] at W1
  go_upto_region 1 with fail
  rw [← hwb]
  replace hwb := Lib.hid hwb
  obtain ⟨q0, q1⟩ := c2 P1.out
  obtain ⟨q2, q3⟩ := c2 P2.out
  go_wp2_with fail
  refine (S1.out _ W1.out).mono ?_
  rintro e w1 ⟨rfl, b1⟩
  clear q0 q1 q2 q3
  obtain ⟨q0, q1⟩ := c2 (hop b1 P1.out)
  obtain ⟨q2, q3⟩ := c2 (hop b1 P2.out)
  have B1 := Lib.hid (Buf.then_ W1.out b1)
  clear b1
  go_wp2_with fail
  refine (S2.out _ B1.out).mono ?_
  rintro e w2 ⟨rfl, b2⟩
  go_wp2_with fail
  go_ret
  exact ⟨rfl, Buf.then_ B1.out b2⟩
theorem top_unique {f g : Int → Bool} {q t s : Int} (h : TopP f g q t) (k : TopP f g q s) : t = s := by
  obtain ⟨a1, a2, _, a3, a4, a5⟩ := h
  obtain ⟨b1, b2, _, b3, b4, b5⟩ := k
  rcases Int.lt_trichotomy t s with hl | h | hl
  · rcases b5 with h | h | h | h
    · omega
    · omega
    · have := a3 _ h; omega
    · have := a4 _ h; omega
  · exact h
  · rcases a5 with h | h | h | h
    · omega
    · omega
    · have := b3 _ h; omega
    · have := b4 _ h; omega
/-- What Request returns. -/
def Req (f g : Int → Bool) (q n : Int) (B : Nat) (w : World) (e : Ending) : Prop := ∃ v t N, e = .returned (.tuple #[v, .int .i64 0]) ∧ TopP f g q t ∧ Is N (fun x => (decide (0 ≤ x ∧ x < t) && !f x) && !g x) ∧ Sp.Spans w B v (firstL N n)
set_option maxHeartbeats 4000000 in
set_option maxRecDepth 100000 in
theorem request_any {w : World} {vg vl : Value} {f g : Int → Bool} (h : Rc w vg vl f g) (q n : Int) (q0 : 0 ≤ q) (q9 : q < 60) (n0 : 0 ≤ n) (n9 : n ≤ 200) :
    Calls Try.prog 46 #[.agg #[vg, vl], .int .i64 q, .int .i64 n] w fun e w' => Req f g q n w.heap.size w' e ∧ Below w.heap.size w w' := by
  obtain ⟨ga, gn, gc, la, ln, lc, rfl, rfl⟩ := Rc.form h
  have HR := Lib.hid h
  clear h
  go_enter Try.func46, Try.ntmps46
  obtain ⟨wb, hwb⟩ : ∃ wb, wb = w.alloc (.cells #[.slice ga gn gc, .slice la ln lc] 46) := ⟨_, rfl⟩
  have B0 := Lib.hid (show Below w.heap.size w wb by rw [hwb]; exact new_block _)
  have PX : wb.heap[w.heap.size]? = some (.cells #[.slice ga gn gc, .slice la ln lc] 46 (0, 0)) := by rw [hwb]; exact heap_alloc_new w _
  obtain ⟨k0, k1⟩ := c2 PX
  have V := Lib.hid (missing_any (HR.out.keep B0.out) q q0 q9)
  go_upto_region 1 with fail
  rw [← hwb]
  clear hwb
  go_wp2_with fail
  refine V.out.mono ?_
  rintro e w1 ⟨⟨v, t, he, hT, hS⟩, hb⟩
  subst he
  have HT := Lib.hid hT
  obtain ⟨N, hN, hI, hl, hn⟩ := hS
  have F := Lib.hid fun (m : Nat) => first_any n (hN.keep (Buf.below_drewN (Below.refl _ w1) m)) (fun p hp => ⟨(hn p hp).1, by have := (hn p hp).2; omega⟩) (by omega) n0 (by omega)
  have HI := Lib.hid hI
  have B1 := Lib.hid (Buf.then_ B0.out hb)
  obtain ⟨va, vn, vc, rfl, _⟩ : ∃ a n c, v = .slice a n c ∧ True := by obtain ⟨a, c, e, _⟩ := its_form hN; exact ⟨a, _, c, e, trivial⟩
  clear hT hN hI hl hn hb k0 k1 PX V
  go_wp2_with (go_at_call 64; refine (within_yes n 0 256 _ (by omega) (by omega)).mono ?_; rintro e w2 ⟨rfl, m, rfl⟩)
  refine (F.out _).mono ?_
  rintro e w3 ⟨⟨r, N', hN', _, rfl, O⟩, hb⟩
  obtain rfl := Is.unique hN' (Is.self HI.out.canon)
  go_wp2_with fail
  go_ret2
  exact ⟨⟨_, t, N', rfl, HT.out, HI.out, Sp.own_mono O B1.out.size⟩, Buf.then_ (Buf.below_drewN B1.out _) hb⟩
end Rcv
end Go.Proofs.Ytfmhfhggogjbkaa
