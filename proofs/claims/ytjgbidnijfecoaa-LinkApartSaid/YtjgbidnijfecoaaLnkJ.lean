/- link.insert and Send in general. -/
import Derived.Test.YtjgbidnijfecoaaLnkI
set_option linter.unusedVariables false
set_option linter.unusedSimpArgs false
namespace Go.Proofs.Ytjgbidnijfecoaa
open Go.RowKit Wi Dice
namespace Lnk
theorem Insert_pos {B : Nat} {w : World} {v : Value} {L : List T3} (x y : Int) (s : ByteArray) (p : Nat) (h : OwnT w B v L) (hB : B ≤ w.heap.size) (hp : w.heap[p]? = some (.cells #[.int .i64 x, .int .i64 y, .string s] 55 (0, 0))) (hpn : v.ownBlock ≠ some p) (h9 : L.length ≤ 1024) :
    Calls Try.prog 28 #[v, .int .i64 (pos (x, y, s) L : Nat), .slice (some ⟨p, 0, none⟩) 1 1] w fun e w' => (∃ r, e = .returned r ∧ OwnT w' B r (ins (x, y, s) L)) ∧ w.grownBy w' v.ownBlock := by
  by_cases hlt : pos (x, y, s) L < L.length
  · exact Insert_mid _ x y s p hlt h hB hp hpn h9
  · have e : pos (x, y, s) L = L.length := by have := pos_le (x, y, s) L; omega
    have e2 : ins (x, y, s) L = L ++ [(x, y, s)] := by unfold ins put; rw [e]; simp
    rw [e, e2]
    exact Insert_end x y s p h hB hp h9
set_option maxRecDepth 100000 in
set_option maxHeartbeats 4000000 in
theorem insert_any {B : Nat} {w : World} {v : Value} {L : List (Int × Int × ByteArray)} (x y : Int) (s : ByteArray) (h : OwnT w B v L) (hB : B ≤ w.heap.size) (hpw : L.Pairwise ls) (hap : ∀ p ∈ L, ls p (x, y, s) ∨ ls (x, y, s) p) (h9 : L.length ≤ 1024) :
    Calls Try.prog 23 #[v, .agg #[.int .i64 x, .int .i64 y, .string s]] w fun e w' => (∃ r, e = .returned r ∧ OwnT w' B r (ins (x, y, s) L)) ∧ w.grownBy w' v.ownBlock := by
  have O := Lib.hid h
  have HP := Lib.hid hpw
  have HA := Lib.hid hap
  have B0 := Lib.hid (heap_alloc_new w (.cells #[.int .i64 x, .int .i64 y, .string s] 55))
  have W0 : Hid (Below w.heap.size w (w.alloc (.cells #[.int .i64 x, .int .i64 y, .string s] 55))) := Lib.hid (new_block _)
  obtain ⟨w1, hw1⟩ : ∃ w1, w1 = w.alloc (.cells #[.int .i64 x, .int .i64 y, .string s] 55) := ⟨_, rfl⟩
  rw [← hw1] at B0 W0
  have O1 := Lib.hid (own_below O.out W0.out)
  replace hw1 := Lib.hid hw1
  clear h hpw hap
  go_enter Try.func23, Try.ntmps23
  go_upto_region 1 with fail
  rw [← hw1.out]
  obtain ⟨k0, k1, k2⟩ := c3 B0.out
  go_wp2_with fail
  refine (search_any x y s (its_of_own O1.out) HP.out HA.out h9).mono ?_
  rintro e w2 ⟨rfl, hb2⟩
  have B2 := Lib.hid (hb hb2 B0.out)
  have W2 := Lib.hid (Buf.then_ W0.out hb2)
  have O2 := Lib.hid (own_below O1.out hb2)
  clear hb2 k0 k1 k2 O1 B0 W0 hw1
  obtain ⟨k0, k1, k2⟩ := c3 B2.out
  have N2 := Lib.hid (heap_alloc_new w2 (.cells #[.int .i64 x, .int .i64 y, .string s] 55))
  have W3 : Hid (Below w2.heap.size w2 (w2.alloc (.cells #[.int .i64 x, .int .i64 y, .string s] 55))) := Lib.hid (new_block _)
  have O3 := Lib.hid (own_below O2.out W3.out)
  have hB3 : B ≤ (w2.alloc (.cells #[.int .i64 x, .int .i64 y, .string s] 55)).heap.size := by have := W2.out.size; simp; omega
  have II := Lib.hid (Insert_pos x y s w2.heap.size O3.out hB3 N2.out (fun e => by have := (O2.out.lt _ e).2; omega) h9)
  clear hB3
  go_wp2_with fail
  refine II.out.mono ?_
  rintro e w4 ⟨⟨r, rfl, hr⟩, hg⟩
  have G4 := Lib.hid ((grown_of_below (Buf.then_ W2.out W3.out)).trans hg)
  replace hr := Lib.hid hr
  clear hg k0 k1 k2 II
  go_wp2_with fail
  go_ret
  exact ⟨⟨_, rfl, hr.out⟩, G4.out⟩
set_option maxRecDepth 100000 in
set_option maxHeartbeats 8000000 in
theorem send_any {B : Nat} {w : World} {v : Value} {L : List (Int × Int × ByteArray)} (now ord dl cp : Int) (s : ByteArray) (b : Bool) (n : Nat) (hn : (n : Int) = if b then 0 else 1 + cp) (G : Good now ord L) (h : Its B w v L)
    (d0 : 0 ≤ dl) (d1 : dl ≤ 1000) (c0 : 0 ≤ cp) (c1 : cp ≤ 8) (hs : s.size ≤ 4096) (ho : ord ≤ 1000) (hw : now ≤ 1000) (hl9 : L.length ≤ 1000) :
    Calls Try.prog 12 #[.agg #[.int .i64 now, .int .i64 ord, v], .string s, .agg #[.bool b, .int .i64 dl, .int .i64 cp]] w fun e w' => (∃ r, e = .returned (.tuple #[.agg #[.int .i64 now, .int .i64 (ord + 1), r], .int .i64 0]) ∧ OwnT w' w.heap.size r (insN (now + 1 + dl) ord s L n)) ∧ Below w.heap.size w w' := by
  have HG := Lib.hid G
  have HI := Lib.hid h
  have HY : Hid (∀ p ∈ L, p.2.1 < ord) := Lib.hid fun p hp => by
    obtain ⟨k, hk⟩ := List.mem_iff_getElem?.1 hp
    have := G.it k p hk; omega
  have AR := Lib.hid fun w => arrivals_any b dl cp c0 c1 n hn w
  have hn9 : n ≤ 9 := by cases b <;> simp at hn <;> omega
  obtain ⟨n0, n1, o0, o1, hlen, _, _⟩ := G
  obtain ⟨w3, hw3⟩ : ∃ w3, w3 = ((w.alloc (.cells #[.int .i64 now, .int .i64 ord, v] 29)).alloc (.cells #[.bool b, .int .i64 dl, .int .i64 cp] 32)).alloc (.cells #[.int .i64 0, .int .i64 0, .slice none 0 0] 29) := ⟨_, rfl⟩
  have e1 : (w.alloc (.cells #[.int .i64 now, .int .i64 ord, v] 29)).heap.size = w.heap.size + 1 := by simp
  have e2 : ((w.alloc (.cells #[.int .i64 now, .int .i64 ord, v] 29)).alloc (.cells #[.bool b, .int .i64 dl, .int .i64 cp] 32)).heap.size = w.heap.size + 2 := by simp
  have W0 := Lib.hid (show Below w.heap.size w w3 by rw [hw3]; exact ((new_block _).alloc (by simp) _).alloc (by simp; omega) _)
  have P0 := Lib.hid (show w3.heap[w.heap.size]? = some (.cells #[.int .i64 now, .int .i64 ord, v] 29 (0, 0)) by rw [hw3]; exact (heap_alloc_old _ _ (by simp; omega)).trans ((heap_alloc_old _ _ (by simp)).trans (heap_alloc_new w _)))
  have P1 := Lib.hid (show w3.heap[w.heap.size + 1]? = some (.cells #[.bool b, .int .i64 dl, .int .i64 cp] 32 (0, 0)) by rw [hw3]; exact (heap_alloc_old _ _ (by simp)).trans (by rw [← e1]; exact heap_alloc_new _ _))
  have P2 := Lib.hid (show w3.heap[w.heap.size + 2]? = some (.cells #[.int .i64 0, .int .i64 0, .slice none 0 0] 29 (0, 0)) by rw [hw3, ← e2]; exact heap_alloc_new _ _)
  have z3 : w3.heap.size = w.heap.size + 3 := by rw [hw3]; simp
  clear h hn
  go_enter Try.func12, Try.ntmps12
  go_upto_region 1 with fail
  clear e1 e2
  rw [← hw3]
  clear hw3
  obtain ⟨k0, k1, k2⟩ := c3 P0.out
  obtain ⟨l0, l1, l2⟩ := c3 P1.out
  go_wp2_with fail
  refine (valid_yes now ord HG.out (HI.out.below W0.out)).mono ?_
  rintro e w4 ⟨rfl, hb4⟩
  have z4 := hb4.size
  replace P0 := Lib.hid (hb hb4 P0.out)
  replace P1 := Lib.hid (hb hb4 P1.out)
  replace P2 := Lib.hid (hb hb4 P2.out)
  replace W0 := Lib.hid (Buf.then_ W0.out hb4)
  clear hb4 k0 k1 k2 l0 l1 l2
  obtain ⟨l0, l1, l2⟩ := c3 P1.out
  go_wp2_with fail
  refine (validFault_any b dl cp d0 (by omega) c0 c1 _).mono ?_
  rintro e w5 ⟨rfl, hb4⟩
  have z5 := hb4.size
  replace P0 := Lib.hid (hb hb4 P0.out)
  replace P1 := Lib.hid (hb hb4 P1.out)
  replace P2 := Lib.hid (hb hb4 P2.out)
  replace W0 := Lib.hid (Buf.then_ W0.out hb4)
  clear hb4 l0 l1 l2
  obtain ⟨l0, l1, l2⟩ := c3 P1.out
  go_wp2_with fail
  refine (AR.out _).mono ?_
  rintro e w6 ⟨rfl, hb4⟩
  have z6 := hb4.size
  replace P0 := Lib.hid (hb hb4 P0.out)
  replace P1 := Lib.hid (hb hb4 P1.out)
  replace P2 := Lib.hid (hb hb4 P2.out)
  replace W0 := Lib.hid (Buf.then_ W0.out hb4)
  clear hb4 l0 l1 l2
  obtain ⟨k0, k1, k2⟩ := c3 P0.out
  have d5 : (ord == 1099511627776) = false := by rw [beq_eq_false_iff_ne]; omega
  obtain ⟨a, lv, cv, rfl, hlv⟩ : ∃ a lv cv, v = .slice a lv cv ∧ lv = L.length := by
    rcases HI.out with ⟨h1, h2⟩ | ⟨g, c, h1, _⟩
    · exact ⟨_, _, _, h1, by rw [h2]; rfl⟩
    · exact ⟨_, _, _, h1, rfl⟩
  have hlv' : lv ≤ 1000 := by omega
  replace hlv := Lib.hid hlv
  go_wp2_with fail
  refine (clone_any (rd_of_its (HI.out.below W0.out)) (by omega)).mono ?_
  rintro e w7 ⟨⟨r, rfl, hr⟩, hb4⟩
  have z7 := hb4.size
  replace P0 := Lib.hid (hb hb4 P0.out)
  replace P1 := Lib.hid (hb hb4 P1.out)
  replace P2 := Lib.hid (hb hb4 P2.out)
  replace W0 := Lib.hid (Buf.then_ W0.out hb4)
  replace hr := Lib.hid (own_mono hr (B' := w.heap.size + 3) (by omega))
  obtain ⟨ra, rm, rc, rfl, hrm⟩ := own_letter hr.out
  clear hb4 k0 k1 k2 d5
  obtain ⟨k0, k1, k2⟩ := c3 P0.out
  obtain ⟨j0, j1, j2⟩ := f3 P0.out
  go_wp2_with fail
  clear k0 k1 k2 j0 j1 j2
  go_loopw [43] (fun i wr => ∃ (k : Nat) (r : Value), i = .int .i64 (k : Int) ∧ k ≤ n ∧ Hid (OwnT wr (w.heap.size + 3) r (insN (now + 1 + dl) ord s L k)) ∧ Hid (wr.heap[w.heap.size]? = some (.cells #[.int .i64 now, .int .i64 ord, r] 29 (0, 0))) ∧ Hid (wr.heap[w.heap.size + 1]? = some (.cells #[.bool b, .int .i64 dl, .int .i64 cp] 32 (0, 0))) ∧ Hid (wr.heap[w.heap.size + 2]? = some (.cells #[.int .i64 0, .int .i64 0, .slice none 0 0] 29 (0, 0))) ∧ Hid (Below w.heap.size w wr)) (fun i _ => n - (intOf i).toNat)
  case atStart =>
    exact ⟨0, _, rfl, Nat.zero_le _, Lib.hid (by have h5 := own_far (g := w.heap.size) (o := 2) hr.out (by omega) (.slice ra rm rc); exact h5), Lib.hid (st3 P0.out _).2.2, Lib.hid (st_far P1.out (by omega) _), Lib.hid (st_far P2.out (by omega) _), Lib.hid (W0.out.setCell (Nat.le_refl _) _)⟩
  case round =>
    clear P0 P1 P2 W0 hr z3 z4 z5 z6 z7
    obtain ⟨k, r2, rfl, hk, O, P0, P1, P2, W0⟩ := hrel
    obtain ⟨ra2, rm2, rc2, rfl, hrm2⟩ := own_letter O.out
    have zr := (Array.getElem?_eq_some_iff.1 P2.out).1
    by_cases hlt : k < n
    · obtain ⟨k0, k1, k2⟩ := c3 P0.out
      obtain ⟨l0, l1, l2⟩ := c3 P1.out
      go_wp2_with fail
      refine (insert_any (now + 1 + dl + (k : Int)) ord s O.out (by omega) (insN_pw HG.out.pw HY.out k) (insN_apart HY.out k) (by rw [insN_length]; omega)).mono ?_
      rintro e w8 ⟨⟨r3, rfl, hr3⟩, hg⟩
      have Q0 := Lib.hid (own_grow O.out hg P0.out (by omega))
      have Q1 := Lib.hid (own_grow O.out hg P1.out (by omega))
      have Q2 := Lib.hid (own_grow O.out hg P2.out (by omega))
      have W8 := Lib.hid (W0.out.grown hg (by omega) fun q hq => by have := (O.out.lt q hq).1; omega)
      replace hr3 : OwnT w8 (w.heap.size + 3) r3 (insN (now + 1 + dl) ord s L (k + 1)) := hr3
      obtain ⟨ra3, rm3, rc3, rfl, hrm3⟩ := own_letter hr3
      replace hr3 := Lib.hid hr3
      clear hg k0 k1 k2 l0 l1 l2
      obtain ⟨k0, k1, k2⟩ := c3 Q0.out
      obtain ⟨j0, j1, j2⟩ := f3 Q0.out
      go_wp2_with fail
      go_roundw
      case rel => exact ⟨k + 1, _, by go_num, by omega, Lib.hid (own_far hr3.out (by omega) _), Lib.hid (st3 Q0.out _).2.2, Lib.hid (st_far Q1.out (by omega) _), Lib.hid (st_far Q2.out (by omega) _), Lib.hid (W8.out.setCell (Nat.le_refl _) _)⟩
      case measure => simp [intOf]; omega
    · obtain rfl : k = n := by omega
      obtain ⟨k0, k1, k2⟩ := c3 P0.out
      obtain ⟨j0, j1, j2⟩ := f3 P0.out
      have R0 := Lib.hid (st3 P0.out (.int .i64 (ord + 1))).2.1
      have R2 := Lib.hid (st_far (g := w.heap.size) (o := 1) P2.out (by omega) (.int .i64 (ord + 1)))
      have OR := Lib.hid (own_far (g := w.heap.size) (o := 1) O.out (by omega) (.int .i64 (ord + 1)))
      have WR := Lib.hid (W0.out.setCell (p := ⟨w.heap.size, 1, none⟩) (Nat.le_refl _) (.int .i64 (ord + 1)))
      go_upto_region 13 with fail
      clear k0 k1 k2 j0 j1 j2
      generalize wr.setCell ⟨w.heap.size, 1, none⟩ (.int .i64 (ord + 1)) = w9 at *
      obtain ⟨k0, k1, k2⟩ := c3 R0.out
      obtain ⟨m0, m1, m2⟩ := c3 R2.out
      obtain ⟨j0, j1, j2⟩ := f3 R2.out
      have Z := Lib.hid (st3all R2.out (.int .i64 now) (.int .i64 (ord + 1)) (.slice ra2 rm2 rc2))
      have OZ := Lib.hid (own_mono (own_far3 (g := w.heap.size + 2) OR.out (by omega) (.int .i64 now) (.int .i64 (ord + 1)) (.slice ra2 rm2 rc2)) (B' := w.heap.size) (by omega))
      have WZ := Lib.hid (below_set3 (g := w.heap.size + 2) WR.out (by omega) (.int .i64 now) (.int .i64 (ord + 1)) (.slice ra2 rm2 rc2))
      go_wp2
      exact bodyPost_ret (Res.row_tmp rfl _ _ (w.heap.size + 2) _ _ _ _ rfl Z.out rfl (by rfl) rfl) rfl ⟨⟨_, rfl, OZ.out⟩, WZ.out⟩
end Lnk
end Go.Proofs.Ytjgbidnijfecoaa
