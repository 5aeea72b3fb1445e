/- A map of counts; Dice.Fault; link.Next, Drain; what a tick takes from a wire. -/
import Derived.Test.YtjgbidnijfecoaaLnkJ
import Derived.Test.YtjgbidnijfecoaaLnkG
import Derived.Test.YtjgbidnijfecoaaDice
import Derived.Maps.OwnOps
import Derived.Maps.Views
import Derived.Maps.OwnSet
import Derived.Lib.MinMax
set_option linter.unusedVariables false
set_option linter.unusedSimpArgs false
namespace Go.Proofs.Ytjgbidnijfecoaa
open Go.RowKit Wi Dice
namespace Lnk
/-- A map of ints that reads as a function. -/
def MapI (w : World) (b n : Nat) (f : Int → Int) : Prop :=
  ∃ D : DataW Unit, w.ownsMap Try.prog 3 (plainElem Try.prog 3) b n D ∧ ∀ k : Int, D.atKey (.int .i64 k) (.lit (.int .i64 0)) = .lit (.int .i64 (f k))
theorem MapI.made (w : World) : MapI (w.alloc (.map #[] 0)) w.heap.size 0 (fun _ => 0) := ⟨_, World.ownsMap_made w _ _ _, fun k => rfl⟩
theorem MapI.kept {w w' : World} {b n : Nat} {f : Int → Int} {row : Option Nat} (h : MapI w b n f) (hg : w.grownBy w' row) (hne : some b ≠ row) : MapI w' b n f := by
  obtain ⟨D, h1, h2⟩ := h
  exact ⟨D, h1.kept hg hne, h2⟩
theorem MapI.below {w w' : World} {b n : Nat} {f : Int → Int} (h : MapI w b n f) (hb : Below w.heap.size w w') : MapI w' b n f := h.kept (row := none) (grown_of_below hb) (by simp)
theorem MapI.mono {w : World} {b n n' : Nat} {f : Int → Int} (h : MapI w b n f) (hn : n ≤ n') : MapI w b n' f := by
  obtain ⟨D, h1, h2⟩ := h
  exact ⟨D, h1.mono hn, h2⟩
theorem MapI.ext {w : World} {b n : Nat} {f g : Int → Int} (h : MapI w b n f) (e : ∀ k, f k = g k) : MapI w b n g := by
  obtain ⟨D, h1, h2⟩ := h
  exact ⟨D, h1, fun k => (h2 k).trans (by rw [e])⟩
theorem MapI.lt {w : World} {b n : Nat} {f : Int → Int} (h : MapI w b n f) : b < w.heap.size := by
  obtain ⟨D, h1, h2⟩ := h
  exact h1.lt
theorem MapI.lookup {w : World} {b n : Nat} {f : Int → Int} (h : MapI w b n f) (k : Int) (hk : (Lit.int .i64 k).wf = true) : (Instr.lookup 42 (.map (some b)) (.int .i64 k) false).run Try.prog w = .ok (.int .i64 (f k)) w := by
  obtain ⟨D, h1, h2⟩ := h
  obtain ⟨c, hrun, hat, _⟩ := h1.lookup_int (Maps.int_keyed Try.underlying3) Try.underlying42 Try.underlying3 (Try.zeroValue3 w) (Maps.keyOf_int_mk Try.underlying3 hk)
  rw [h2 k] at hat
  injection hat with hat
  injection hat with _ hat
  rw [hat]; exact hrun
theorem wpList_put {w : World} {ops : Array Oper} {rest : List Oper} {o : Oper} {a : Act} {Q : Exit → Act → World → Prop} (hgd : o.guard = none) (m x v : Operand) (ho : o.op = Op.mapUpdate 42 m x v)
    (b n : Nat) (f : Int → Int) (hm : a.eval m = .map (some b)) (h : MapI w b n f) (hn : n < 1000000) (k c : Int) (hx : a.eval x = .int .i64 k) (hv : a.eval v = .int .i64 c) (hk : (Lit.int .i64 k).wf = true) (hc : (Lit.int .i64 c).wf = true)
    (hK : ∀ w', Hid (MapI w' b (n + 1) (fun j => if j = k then c else f j)) → Hid (w.grownBy w' (some b)) → wpList Try.prog ops Q rest (a.put o.dst undef) w') : wpList Try.prog ops Q (o :: rest) a w := by
  obtain ⟨D, h1, h2⟩ := h
  refine wpList_mapUpdate_own w hgd m x v _ ho 3 3 (Maps.int_keyed Try.underlying3) Try.underlying42 _ b n D hm h1 (by unfold maxLen; omega) _ _ (.int .i64 k) hx hv (Maps.keyOf_int_mk Try.underlying3 hk) (.lit (.int .i64 c)) [] (plainElem_int Try.underlying3 hc) fun w' h3 h4 => ?_
  refine hK w' (Lib.hid ⟨_, h3, fun j => ?_⟩) (Lib.hid h4)
  show _ = DataW.lit (Lit.int .i64 (if j = k then c else f j))
  by_cases e : j = k
  · subst e
    rw [if_pos rfl]
    exact Maps.atKey_put_same (k := .int .i64 j) h1.isMap (show WideAt.IsKeyLit (.int .i64 j) from trivial) _ _
  · rw [if_neg e]
    exact (Maps.atKey_put_other (fun e2 => e (by injection e2)) _ _).trans (h2 j)
theorem wf_small {k : Int} (h0 : -1000000000 ≤ k) (h9 : k ≤ 1000000000) : (Lit.int .i64 k).wf = true := by
  simp [Lit.wf, IntKind.min, IntKind.max, IntKind.signed, IntKind.bits]
  omega
/-- How many messages arrive at a tick. -/
def cnt (t : Int) (L : List T3) : Nat := L.countP fun p => p.1 == t
theorem cnt_perm {t : Int} {L M : List T3} (h : L.Perm M) : cnt t L = cnt t M := h.countP_eq _
theorem due_split {t : Int} : ∀ {L : List T3}, L.Pairwise ls → (∀ p ∈ L, t ≤ p.1) → (∀ p ∈ L.take (due t L), p.1 = t) ∧ (∀ p ∈ L.drop (due t L), t < p.1)
  | [], _, _ => by simp
  | p :: L, h, hl => by
    obtain ⟨h1, h2⟩ := List.pairwise_cons.1 h
    have hp := hl p (List.mem_cons_self ..)
    unfold due
    by_cases e : p.1 = t
    · obtain ⟨i1, i2⟩ := due_split h2 fun q hq => hl q (List.mem_cons_of_mem _ hq)
      rw [if_pos e]
      refine ⟨fun q hq => ?_, fun q hq => i2 q (by simpa using hq)⟩
      rw [List.take_succ_cons] at hq
      rcases List.mem_cons.1 hq with rfl | hq
      · exact e
      · exact i1 q hq
    · rw [if_neg e]
      refine ⟨by simp, fun q hq => ?_⟩
      rw [List.drop_zero] at hq
      rcases List.mem_cons.1 hq with rfl | hq
      · omega
      · have := h1 q hq
        unfold ls at this; omega
theorem cnt_all {t : Int} {L : List T3} (h : ∀ p ∈ L, p.1 = t) : cnt t L = L.length := List.countP_eq_length.2 fun p hp => by simpa using h p hp
theorem cnt_none {t : Int} {L : List T3} (h : ∀ p ∈ L, p.1 ≠ t) : cnt t L = 0 := List.countP_eq_zero.2 fun p hp => by simpa using h p hp
theorem cnt_split (t : Int) (L : List T3) (k : Nat) : cnt t L = cnt t (L.take k) + cnt t (L.drop k) := by
  unfold cnt
  rw [← List.countP_append, List.take_append_drop]
theorem Good.ge {now ord : Int} {L : List T3} (G : Good now ord L) : ∀ p ∈ L, now + 1 ≤ p.1 := fun p hp => by
  obtain ⟨k, hk⟩ := List.mem_iff_getElem?.1 hp
  exact (G.it k p hk).2.1
theorem due_cnt {now ord : Int} {L : List T3} (G : Good now ord L) : due (now + 1) L = cnt (now + 1) L := by
  obtain ⟨h1, h2⟩ := due_split G.pw G.ge
  rw [cnt_split _ L (due (now + 1) L), cnt_all h1, cnt_none fun p hp => by have := h2 p hp; omega]
  rw [List.length_take]; have := due_le (now + 1) L; omega
theorem cnt_rest {now ord t : Int} {L : List T3} (G : Good now ord L) (ht : now + 1 < t) : cnt t (L.drop (due (now + 1) L)) = cnt t L := by
  obtain ⟨h1, h2⟩ := due_split G.pw G.ge
  rw [cnt_split t L (due (now + 1) L), cnt_none (L := L.take _) fun p hp => by have := h1 p hp; omega]
  omega
theorem good_tick {now ord : Int} {L : List T3} (G : Good now ord L) (hn : now < 1099511627776) : Good (now + 1) ord (L.drop (due (now + 1) L)) := by
  obtain ⟨h1, h2⟩ := due_split G.pw G.ge
  have hpw : (L.drop (due (now + 1) L)).Pairwise ls := G.pw.sublist (List.drop_sublist _ _)
  refine ⟨by have := G.n0; omega, by omega, G.o0, G.o1, ?_, fun k p hp => ?_, fun k p q hp hq => asc_of_pairwise hpw k p q hp hq⟩
  · rw [List.length_drop]; have := G.len; omega
  · have hm : p ∈ L.drop (due (now + 1) L) := List.mem_of_getElem? hp
    have := h2 p hm
    obtain ⟨k', hk⟩ := List.mem_iff_getElem?.1 (List.mem_of_mem_drop hm)
    obtain ⟨a, b, c, d, e⟩ := G.it k' p hk
    exact ⟨a, by omega, c, d, e⟩
theorem due_pos {t : Int} {p : T3} {L : List T3} : 0 < due t (p :: L) ↔ p.1 = t := by
  show 0 < (if p.1 = t then due t L + 1 else 0) ↔ _
  split <;> simp_all
theorem cnt_news (t x y : Int) (s : ByteArray) (n : Nat) : cnt t (news x y s (n + 1)) = cnt t (news x y s n) + (if t = x + (n : Int) then 1 else 0) := by
  rw [news_succ]
  unfold cnt
  rw [List.countP_append]
  by_cases e : t = x + (n : Int)
  · simp [e]
  · rw [if_neg e]; simp; omega
theorem cnt_insN (t x y : Int) (s : ByteArray) (L : List T3) (n : Nat) : cnt t (insN x y s L n) = cnt t (news x y s n) + cnt t L := by
  rw [cnt_perm (insN_perm x y s L n)]; unfold cnt; rw [List.countP_append]
set_option maxRecDepth 100000 in
set_option maxHeartbeats 4000000 in
theorem fault_any {W w : World} {g : Nat} {a : Option Addr} {len cap : Nat} {zs : List Int} (h : Di W w g a len cap zs) :
    Calls Try.prog 10 #[.pointer (some ⟨g, 0, none⟩)] w fun e w' => (∃ (b : Bool) (dl cp : Int), e = .returned (.agg #[.bool b, .int .i64 dl, .int .i64 cp]) ∧ 0 ≤ dl ∧ dl ≤ 5 ∧ 0 ≤ cp ∧ cp ≤ 2) ∧ Dice.Left W w w' g a len cap zs := by
  have HD := Lib.hid h
  have hlt := h.lt
  have X0 := Lib.hid (heap_alloc_new w (.cells #[.bool false, .int .i64 0, .int .i64 0] 32))
  have L0 := Lib.hid ((Dice.Left.refl h).below (new_block (.cells #[.bool false, .int .i64 0, .int .i64 0] 32)))
  have hsz : (w.alloc (.cells #[.bool false, .int .i64 0, .int .i64 0] 32)).heap.size = w.heap.size + 1 := by simp
  clear h
  go_enter Try.func10, Try.ntmps10
  go_wp2_with fail
  generalize hw1 : w.alloc (.cells #[.bool false, .int .i64 0, .int .i64 0] 32) = w1 at *
  replace hw1 := Lib.hid hw1
  refine (next_any 4 L0.out.di (by omega) (by omega)).mono ?_
  rintro e w2 ⟨⟨k, rfl, k0, k1⟩, hl⟩
  have X2 := Lib.hid ((hl.far.block w.heap.size (by omega) (by simp; omega)).trans X0.out)
  have L2 := Lib.hid (L0.out.trans hl)
  have hs2 : w.heap.size < w2.heap.size := (Array.getElem?_eq_some_iff.1 X2.out).1
  clear hl X0 L0
  obtain ⟨kb, hkb⟩ : ∃ kb : Bool, (k == 0) = kb := ⟨_, rfl⟩
  have I2 := Lib.hid (ints_alloc w2 [0, 0, 1, 2, 5] 3)
  go_wp2_with fail
  refine (pick_any w2.heap.size [0, 0, 1, 2, 5] 5 5 (L2.out.di.below (new_block _)) (by simpa using I2.out) rfl (by omega) (by omega) (by omega) (by simp)).mono ?_
  rintro e w3 ⟨⟨dl, rfl, hdl⟩, hl⟩
  have d0 : 0 ≤ dl := by simp at hdl; omega
  have d1 : dl ≤ 5 := by simp at hdl; omega
  have X3 := Lib.hid ((hl.far.block w.heap.size (by simp; omega) (by simp; omega)).trans ((heap_alloc_old w2 _ (by omega)).trans X2.out))
  have L3 := Lib.hid ((L2.out.below (new_block _)).trans hl)
  have hs3 : w.heap.size < w3.heap.size := (Array.getElem?_eq_some_iff.1 X3.out).1
  clear hl X2 L2 hdl I2
  have I3 := Lib.hid (ints_alloc w3 [0, 0, 0, 1, 2] 3)
  go_wp2_with fail
  refine (pick_any w3.heap.size [0, 0, 0, 1, 2] 5 5 (L3.out.di.below (new_block _)) (by simpa using I3.out) rfl (by omega) (by omega) (by omega) (by simp)).mono ?_
  rintro e w4 ⟨⟨cp, rfl, hcp⟩, hl⟩
  have c0 : 0 ≤ cp := by simp at hcp; omega
  have c1 : cp ≤ 2 := by simp at hcp; omega
  have X4 := Lib.hid ((hl.far.block w.heap.size (by simp; omega) (by simp; omega)).trans ((heap_alloc_old w3 _ (by omega)).trans X3.out))
  have L4 := Lib.hid ((L3.out.below (new_block _)).trans hl)
  clear hl X3 L3 hcp I3
  obtain ⟨j0, j1, j2⟩ := f3 X4.out
  have Z := Lib.hid (st3all X4.out (.bool kb) (.int .i64 dl) (.int .i64 cp))
  have W4 := Lib.hid (show Dice.Left W w (((w4.setCell ⟨w.heap.size, 0, none⟩ (.bool kb)).setCell ⟨w.heap.size, 1, none⟩ (.int .i64 dl)).setCell ⟨w.heap.size, 2, none⟩ (.int .i64 cp)) g a len cap zs from
    Dice.Left.past HD.out L4.out (below_set3 (Below.refl _ _) (Nat.le_refl _) _ _ _))
  obtain ⟨m0, m1, m2⟩ := c3 X4.out
  go_wp2_with fail
  exact bodyPost_ret (results_cell_row rfl _ _ w.heap.size _ _ _ _ rfl Z.out rfl (by rfl) rfl) rfl ⟨⟨kb, dl, cp, rfl, d0, d1, c0, c1⟩, W4.out⟩
theorem its_form {B : Nat} {w : World} {v : Value} {L : List T3} (h : Its B w v L) : ∃ a m c, v = .slice a m c ∧ Hid (m = L.length) := by
  rcases h with ⟨rfl, rfl⟩ | ⟨g, c, rfl, _⟩
  · exact ⟨none, 0, 0, rfl, Lib.hid rfl⟩
  · exact ⟨_, _, c, rfl, Lib.hid rfl⟩
set_option maxRecDepth 100000 in
set_option maxHeartbeats 4000000 in
theorem drain_any {B : Nat} {w : World} {v : Value} {L : List T3} (now ord : Int) (G : Good now ord L) (h : Its B w v L) :
    Calls Try.prog 16 #[.agg #[.int .i64 now, .int .i64 ord, v]] w fun e w' => (∃ r, e = .returned (.tuple #[r, .int .i64 0]) ∧ OwnT w' w.heap.size r L) ∧ Below w.heap.size w w' := by
  have HG := Lib.hid G
  have HI := Lib.hid h
  have hlen := G.len
  have P0 := Lib.hid (heap_alloc_new w (.cells #[.int .i64 now, .int .i64 ord, v] 29))
  have W0 : Hid (Below w.heap.size w (w.alloc (.cells #[.int .i64 now, .int .i64 ord, v] 29))) := Lib.hid (new_block _)
  obtain ⟨a, m, c, rfl, hm⟩ := its_form h
  clear h G
  go_enter Try.func16, Try.ntmps16
  go_upto_region 1 with fail
  generalize w.alloc (.cells #[.int .i64 now, .int .i64 ord, .slice a m c] 29) = w1 at *
  obtain ⟨k0, k1, k2⟩ := c3 P0.out
  go_wp2_with fail
  refine (valid_yes now ord HG.out (HI.out.below W0.out)).mono ?_
  rintro e w2 ⟨rfl, hb2⟩
  replace P0 := Lib.hid (hb hb2 P0.out)
  replace W0 := Lib.hid (Buf.then_ W0.out hb2)
  clear hb2 k0 k1 k2
  obtain ⟨k0, k1, k2⟩ := c3 P0.out
  go_wp2_with fail
  refine (clone_any (rd_of_its (HI.out.below W0.out)) hlen).mono ?_
  rintro e w3 ⟨⟨r, rfl, hr⟩, hb3⟩
  have O3 := Lib.hid (own_mono hr (B' := w.heap.size) W0.out.size)
  have W3 := Lib.hid (Buf.then_ W0.out hb3)
  clear hb3 hr k0 k1 k2
  go_wp2_with fail
  go_ret2
  exact ⟨⟨_, rfl, O3.out⟩, W3.out⟩
set_option maxRecDepth 100000 in
set_option maxHeartbeats 4000000 in
theorem next_tick {B : Nat} {w : World} {v : Value} {L : List T3} (now ord : Int) (h : Its B w v L) (t : Int) (ht : ∀ p, L[0]? = some p → p.1 = t) (hle : ∀ p ∈ L, t ≤ p.1) (h0 : L = [] → t = 0) (h9 : L.length ≤ 1024) :
    Calls Try.prog 15 #[.agg #[.int .i64 now, .int .i64 ord, v]] w fun e w' => e = .returned (.tuple #[.int .i64 t, .bool (decide (0 < L.length))]) ∧ Below w.heap.size w w' := by
  have P0 := Lib.hid (heap_alloc_new w (.cells #[.int .i64 now, .int .i64 ord, v] 29))
  have W0 : Hid (Below w.heap.size w (w.alloc (.cells #[.int .i64 now, .int .i64 ord, v] 29))) := Lib.hid (new_block _)
  obtain ⟨w1, hw1⟩ : ∃ w1, w1 = w.alloc (.cells #[.int .i64 now, .int .i64 ord, v] 29) := ⟨_, rfl⟩
  rw [← hw1] at P0 W0
  rcases h with ⟨rfl, rfl⟩ | ⟨g, c, rfl, hc, hc2, hB, hg, hcell⟩
  · obtain rfl := h0 rfl
    replace hw1 := Lib.hid hw1
    go_enter Try.func15, Try.ntmps15
    go_upto_region 1 with fail
    rw [← hw1.out]
    obtain ⟨k0, k1, k2⟩ := c3 P0.out
    go_wp2_with fail
    go_ret2
    exact ⟨rfl, W0.out⟩
  · have HC := Lib.hid fun (w' : World) (hb' : Below w.heap.size w w') (k : Nat) (p : T3) (hp : L[k]? = some p) => (hb'.cell (p := ⟨g, k * 3, none⟩) hg).trans (hcell k p hp).1
    have HD := Lib.hid fun (w' : World) (hb' : Below w.heap.size w w') (k : Nat) (p : T3) (hp : L[k]? = some p) => (hb'.cell (p := ⟨g, k * 3 + 1, none⟩) hg).trans (hcell k p hp).2.1
    have HE := Lib.hid fun (w' : World) (hb' : Below w.heap.size w w') (k : Nat) (p : T3) (hp : L[k]? = some p) => (hb'.cell (p := ⟨g, k * 3 + 2, none⟩) hg).trans (hcell k p hp).2.2
    obtain ⟨n, hn⟩ : ∃ n, n = L.length := ⟨_, rfl⟩
    rw [← hn] at h9 hc hw1 P0 ⊢
    have HL := Lib.hid hle
    by_cases hz : n = 0
    · subst hz
      obtain rfl := h0 (List.eq_nil_of_length_eq_zero hn.symm)
      replace hw1 := Lib.hid hw1
      clear hn
      go_enter Try.func15, Try.ntmps15
      go_upto_region 1 with fail
      rw [← hw1.out]
      obtain ⟨k0, k1, k2⟩ := c3 P0.out
      go_wp2_with fail
      go_ret2
      exact ⟨rfl, W0.out⟩
    · have hz' : 0 < n := by omega
      have e1 : decide (0 < n) = true := by simpa using hz'
      rw [e1]
      obtain ⟨p0, hp0⟩ : ∃ p, L[0]? = some p := ⟨L[0]'(by omega), List.getElem?_eq_getElem _⟩
      have x0 := HC.out _ W0.out 0 p0 hp0
      rw [ht _ hp0, Nat.zero_mul] at x0
      have hzn : ¬ ((n : Int) = 0) := by omega
      have hn1 : (0 : Int) < n := by omega
      replace hn := Lib.hid hn
      replace hw1 := Lib.hid hw1
      clear hcell hle ht h0 hp0 hc2
      go_enter Try.func15, Try.ntmps15
      go_upto_region 1 with fail
      rw [← hw1.out]
      obtain ⟨k0, k1, k2⟩ := c3 P0.out
      go_wp2_with fail
      go_loopw [19, 4] (fun i u wr => ∃ k : Nat, k ≤ n ∧ i = .int .i64 k ∧ u = .int .i64 t ∧ Hid (Below w.heap.size w wr)) (fun i _ _ => n - (intOf i).toNat)
      case atStart => exact ⟨0, Nat.zero_le _, rfl, rfl, W0⟩
      case round =>
        clear k0 k1 k2 P0 W0 x0
        obtain ⟨k, hk, rfl, rfl, W⟩ := hrel
        by_cases hlt : k < n
        · obtain ⟨⟨at_, od, s⟩, hp⟩ : ∃ p, L[k]? = some p := ⟨L[k]'(by rw [← hn.out]; exact hlt), List.getElem?_eq_getElem _⟩
          have c0 := HC.out _ W.out k _ hp
          have c1 := HD.out _ W.out k _ hp
          have c2 := HE.out _ W.out k _ hp
          have hat : t ≤ at_ := HL.out _ (List.mem_of_getElem? hp)
          dsimp only at c0 c1 c2
          have A0 := Lib.hid (heap_alloc_new wr (.cells #[.int .i64 at_, .int .i64 od, .string s] 55))
          have hkn : (k : Int) < n := by omega
          have hmin : min t at_ = t := by omega
          go_wp2_with fail
          exact ⟨⟨k + 1, by omega, by go_num, rfl, Lib.hid (Buf.then_ W.out (new_block _))⟩, by simp [intOf]; omega⟩
        · obtain rfl : k = n := by omega
          go_wp2_with fail
          go_ret2
          exact ⟨rfl, W.out⟩
end Lnk
end Go.Proofs.Ytjgbidnijfecoaa
