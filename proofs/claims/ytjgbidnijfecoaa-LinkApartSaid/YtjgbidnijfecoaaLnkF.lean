/- Tick. -/
import Derived.Test.YtjgbidnijfecoaaLnkE
set_option linter.unusedVariables false
set_option linter.unusedSimpArgs false
namespace Go.Proofs.Ytjgbidnijfecoaa
open Go.RowKit Wi Dice
namespace Lnk
theorem infoS : (Try.prog.info? 9).map (fun i => (i.zero, i.size, i.bytes)) = some (some (.string ⟨#[]⟩), 1, 16) := by kernel_rfl
/-- A row of strings. -/
def OwnS (w : World) (B : Nat) (v : Value) (l : List ByteArray) : Prop := w.ownsRow B 9 1 v l.length (l.map Value.string)
/-- How many messages arrive at a tick. -/
def due (t : Int) : List (Int × Int × ByteArray) → Nat
  | [] => 0
  | p :: L => if p.1 = t then due t L + 1 else 0
theorem due_le (t : Int) : ∀ L, due t L ≤ L.length
  | [] => Nat.le_refl _
  | p :: L => by unfold due; split <;> simp [due_le t L]
theorem due_at (t : Int) : ∀ (L : List (Int × Int × ByteArray)) (k : Nat) (p : Int × Int × ByteArray), L[k]? = some p → k ≤ due t L → (p.1 = t ↔ k < due t L)
  | [], k, p, h, _ => by simp at h
  | q :: L, 0, p, h, _ => by
    simp at h; subst h; unfold due; split <;> simp_all
  | q :: L, k + 1, p, h, hk => by
    have h' : L[k]? = some p := by simpa using h
    unfold due at hk ⊢
    split at hk <;> rename_i hq
    · rw [if_pos hq]; have := due_at t L k p h' (by omega); omega
    · omega
def dat (L : List (Int × Int × ByteArray)) : List ByteArray := L.map fun p => p.2.2
theorem take_snoc {α : Type} (L : List α) (k : Nat) (p : α) (h : L[k]? = some p) : L.take (k + 1) = L.take k ++ [p] := by
  obtain ⟨hk, rfl⟩ := List.getElem?_eq_some_iff.1 h
  rw [List.take_succ_eq_append_getElem hk]
theorem dat_snoc (L : List (Int × Int × ByteArray)) (k : Nat) (p : Int × Int × ByteArray) (h : L[k]? = some p) : dat (L.take (k + 1)) = dat (L.take k) ++ [p.2.2] := by
  rw [take_snoc L k p h]; simp [dat]
theorem cellsT_drop (L : List (Int × Int × ByteArray)) (k : Nat) : cellsT (L.drop k) = (cellsT L).drop (k * 3) := by
  induction L generalizing k with
  | nil => simp [cellsT]
  | cons p L ih =>
    cases k with
    | zero => simp
    | succ k =>
      have e : cellsT (p :: L) = .int .i64 p.1 :: .int .i64 p.2.1 :: .string p.2.2 :: cellsT L := by simp [cellsT]
      rw [e, show (k + 1) * 3 = k * 3 + 1 + 1 + 1 by omega]
      simpa using ih k
/-- A list from its k-th message on. -/
theorem rd_drop {B : Nat} {w : World} {g c k lv : Nat} {L : List (Int × Int × ByteArray)} (h : Its B w (.slice (some ⟨g, 0, none⟩) lv c) L) (hl : lv = L.length) (hk : k ≤ L.length) (ad : Addr) (n c' : Nat) (hn : n = L.length - k) (hc : n ≤ c') (had : k < L.length → ad = ⟨g, k * 3, none⟩) : Rd w (.slice (some ad) n c') (L.drop k) := by
  subst hl
  obtain rfl : n = (L.drop k).length := by simpa using hn
  refine .inr ⟨ad, c', rfl, hc, fun j u hu => ?_⟩
  rw [cellsT_drop, List.getElem?_drop] at hu
  have hj : k * 3 + j < L.length * 3 := by rw [← cellsT_length]; exact (List.getElem?_eq_some_iff.1 hu).1
  rw [had (by omega), Addr.add_lit]
  rcases rd_of_its h with ⟨h1, _⟩ | ⟨ad', c2, h1, _, h3⟩
  · cases h1
  · cases h1
    have := h3 (k * 3 + j) u hu
    rwa [Addr.add_lit, Nat.zero_add] at this
set_option maxRecDepth 100000 in
set_option maxHeartbeats 8000000 in
theorem tick_any {B : Nat} {w : World} {v : Value} {L : List (Int × Int × ByteArray)} (now ord : Int) (G : Good now ord L) (h : Its B w v L) (hw : now ≤ 1000) (hl9 : L.length ≤ 1000) :
    Calls Try.prog 13 #[.agg #[.int .i64 now, .int .i64 ord, v]] w fun e w' => (∃ r l, e = .returned (.tuple #[.agg #[.int .i64 (now + 1), .int .i64 ord, r], l, .int .i64 0]) ∧ OwnT w' w.heap.size r (L.drop (due (now + 1) L)) ∧ OwnS w' w.heap.size l (dat (L.take (due (now + 1) L)))) ∧ Below w.heap.size w w' := by
  have HG := Lib.hid G
  have HI := Lib.hid h
  obtain ⟨i0, hi, hz0, hz1, hz2⟩ := info_parts infoS
  obtain ⟨n0, n1, o0, o1, hlen, _, _⟩ := G
  obtain ⟨w2, hw2⟩ : ∃ w2, w2 = (w.alloc (.cells #[.int .i64 now, .int .i64 ord, v] 29)).alloc (.cells #[.int .i64 0, .int .i64 0, .slice none 0 0] 29) := ⟨_, rfl⟩
  have e1 : (w.alloc (.cells #[.int .i64 now, .int .i64 ord, v] 29)).heap.size = w.heap.size + 1 := by simp
  have W0 := Lib.hid (show Below w.heap.size w w2 by rw [hw2]; exact (new_block _).alloc (by simp) _)
  have P0 := Lib.hid (show w2.heap[w.heap.size]? = some (.cells #[.int .i64 now, .int .i64 ord, v] 29 (0, 0)) by rw [hw2]; exact (heap_alloc_old _ _ (by simp)).trans (heap_alloc_new w _))
  have P1 := Lib.hid (show w2.heap[w.heap.size + 1]? = some (.cells #[.int .i64 0, .int .i64 0, .slice none 0 0] 29 (0, 0)) by rw [hw2, ← e1]; exact heap_alloc_new _ _)
  obtain ⟨m, hm⟩ : ∃ m, m = due (now + 1) L := ⟨_, rfl⟩
  have hml : m ≤ L.length := by rw [hm]; exact due_le _ _
  rw [← hm]
  have DA := Lib.hid (fun k p hp hk => due_at (now + 1) L k p hp hk)
  rw [← hm] at DA
  replace hm := Lib.hid hm
  clear h
  go_enter Try.func13, Try.ntmps13
  go_upto_region 1 with fail
  clear e1
  rw [← hw2]
  clear hw2
  obtain ⟨k0, k1, k2⟩ := c3 P0.out
  go_wp2_with fail
  refine (valid_yes now ord HG.out (HI.out.below W0.out)).mono ?_
  rintro e w4 ⟨rfl, hb4⟩
  have z4 := hb4.size
  replace P0 := Lib.hid (hb hb4 P0.out)
  replace P1 := Lib.hid (hb hb4 P1.out)
  replace W0 := Lib.hid (Buf.then_ W0.out hb4)
  clear hb4 k0 k1 k2
  obtain ⟨k0, k1, k2⟩ := c3 P0.out
  obtain ⟨j0, j1, j2⟩ := f3 P0.out
  have d5 : (now == 1099511627776) = false := by rw [beq_eq_false_iff_ne]; omega
  obtain ⟨a, lv, cv, rfl, hlv⟩ : ∃ a lv cv, v = .slice a lv cv ∧ lv = L.length := by
    rcases HI.out with ⟨h1, h2⟩ | ⟨g, c, h1, _⟩
    · exact ⟨_, _, _, h1, by rw [h2]; rfl⟩
    · exact ⟨_, _, _, h1, rfl⟩
  have hlv' : lv ≤ 1000 := by omega
  rw [← hlv] at hml
  replace hlv := Lib.hid hlv
  have Q0 := Lib.hid (st3 P0.out (.int .i64 (now + 1))).1
  have Q1 := Lib.hid (st_far (g := w.heap.size) (o := 0) P1.out (by omega) (.int .i64 (now + 1)))
  have Q2 := Lib.hid (W0.out.setCell (p := ⟨w.heap.size, 0, none⟩) (Nat.le_refl _) (.int .i64 (now + 1)))
  go_upto_region 6 with fail
  clear k0 k1 k2 j0 j1 j2 d5 P0 P1 W0 z4
  generalize w4.setCell ⟨w.heap.size, 0, none⟩ (.int .i64 (now + 1)) = w5 at *
  go_wp2_with fail
  go_loopw [6, 5] (fun i l wr => ∃ (k : Nat), i = .int .i64 (k : Int) ∧ k ≤ m ∧ Hid (OwnS wr (w.heap.size + 2) l (dat (L.take k))) ∧ Hid (wr.heap[w.heap.size]? = some (.cells #[.int .i64 (now + 1), .int .i64 ord, .slice a lv cv] 29 (0, 0))) ∧ Hid (wr.heap[w.heap.size + 1]? = some (.cells #[.int .i64 0, .int .i64 0, .slice none 0 0] 29 (0, 0))) ∧ Hid (Below w.heap.size w wr)) (fun i _ _ => m - (intOf i).toNat)
  case atStart => exact ⟨0, rfl, Nat.zero_le _, Lib.hid (World.ownsRow_nil _ _ _ _), Q0, Q1, Q2⟩
  case round =>
    clear Q0 Q1 Q2
    obtain ⟨k, rfl, hk, O, P0, P1, W0⟩ := hrel
    have zr := (Array.getElem?_eq_some_iff.1 P1.out).1
    obtain ⟨k0, k1, k2⟩ := c3 P0.out
    by_cases hlt : k < m
    · have hkl : (k : Int) < lv := by omega
      obtain ⟨⟨at_, od, s⟩, hp⟩ : ∃ p, L[k]? = some p := ⟨L[k]'(by rw [← hlv.out]; omega), List.getElem?_eq_getElem _⟩
      obtain rfl : at_ = now + 1 := (DA.out k _ hp (by omega)).2 hlt
      obtain ⟨g, rfl, hg, c0, c1, c2⟩ : ∃ g, a = some ⟨g, 0, none⟩ ∧ g < w.heap.size ∧ wr.cell? ⟨g, k * 3, none⟩ = some (.int .i64 (now + 1)) ∧ wr.cell? ⟨g, k * 3 + 1, none⟩ = some (.int .i64 od) ∧ wr.cell? ⟨g, k * 3 + 2, none⟩ = some (.string s) := by
        rcases HI.out with ⟨h1, h2⟩ | ⟨g, c, h1, _, _, _, hg, h3⟩
        · rw [h2] at hp; simp at hp
        · obtain ⟨x0, x1, x2⟩ := h3 k _ hp
          exact ⟨g, by injection h1, hg, (W0.out.cell (p := ⟨g, _, none⟩) hg).trans x0, (W0.out.cell (p := ⟨g, _, none⟩) hg).trans x1, (W0.out.cell (p := ⟨g, _, none⟩) hg).trans x2⟩
      have hd := Lib.hid (dat_snoc L k _ hp)
      replace hp := Lib.hid hp
      obtain ⟨la, lm, lc, rfl, hlm⟩ := own_letter O.out
      have hlm2 : lm ≤ 1000 := by rw [hlm.out]; simp [dat]; omega
      go_wp2_with fail
      go_quiet (fail)
      replace P0 := Lib.hid (show (wr.drewN nq).heap[w.heap.size]? = _ from P0.out)
      replace P1 := Lib.hid (show (wr.drewN nq).heap[w.heap.size + 1]? = _ from P1.out)
      replace W0 := Lib.hid (Buf.below_drewN W0.out nq)
      replace O := Lib.hid (show OwnS (wr.drewN nq) _ _ _ from O.out)
      have zr' : w.heap.size + 1 < (wr.drewN nq).heap.size := zr
      replace c2 : (wr.drewN nq).cell? ⟨g, k * 3 + 2, none⟩ = some (.string s) := c2
      clear c0 c1 k0 k1 k2 zr
      generalize wr.drewN nq = w6 at *
      obtain ⟨k0, k1, k2⟩ := c3 P0.out
      have NB := Lib.hid (World.news_of_block (heap_alloc_new w6 (.cells #[.string s] 9)))
      have W6 : Hid (Below w6.heap.size w6 (w6.alloc (.cells #[.string s] 9))) := Lib.hid (new_block _)
      have OB : Hid ((w6.alloc (.cells #[.string s] 9)).ownsRow (w.heap.size + 2) 9 1 (.slice la lm lc) lm ((dat (L.take k)).map Value.string)) := Lib.hid (by have h := own_below O.out W6.out; rw [← hlm.out] at h; exact h)
      have one : Hid (∀ u ∈ [Value.string s], u.oneCell' = true) := Lib.hid (by simp; rfl)
      have m1 : Hid (lm + 1 ≤ maxLen) := Lib.hid (by unfold maxLen; omega)
      have m2 : Hid ((lm + 1) * 16 ≤ 140737488355328) := Lib.hid (by omega)
      have hsz : w.heap.size + 2 ≤ (w6.alloc (.cells #[.string s] 9)).heap.size := by simp; omega
      have OK : Hid (∀ r w', w'.ownsRow (w.heap.size + 2) 9 1 r (lm + 1) ((dat (L.take k)).map Value.string ++ [Value.string s]) → OwnS w' (w.heap.size + 2) r (dat (L.take (k + 1)))) := Lib.hid fun r w' hh => by
        unfold OwnS; rw [hd.out, List.map_append, List.length_append]; simpa [hlm.out] using hh
      go_wp2_with (at_builtin; (refine wpList_append_own _ rfl (.tmp 35) (.tmp 42) 34 rfl (w.heap.size + 2) 9 i0 (.string ⟨#[]⟩) 1 16 Try.underlying34 hi hz0 hz1 hz2 rfl (by decide) _ lm _ rfl OB.out ⟨w6.heap.size, 0, none⟩ 1 1 _ rfl rfl NB.out one.out m1.out m2.out hsz ?_; intro v' w7 ho hg7 _))
      have Q0 := Lib.hid (own_grow OB.out hg7 (hb W6.out P0.out) (by omega))
      have Q1 := Lib.hid (own_grow OB.out hg7 (hb W6.out P1.out) (by omega))
      have Q2 := Lib.hid ((Buf.then_ W0.out W6.out).grown hg7 (by omega) fun q hq => by have := (OB.out.lt q hq).1; omega)
      have OQ := Lib.hid (OK.out _ _ ho)
      clear ho hg7 k0 k1 k2 NB W6 OB OK
      go_roundw
      case rel => exact ⟨k + 1, by go_num, by omega, OQ, Q0, Q1, Q2⟩
      case measure => simp [intOf]; omega
    · obtain rfl : k = m := by omega
      obtain ⟨la, lm, lc, rfl, hlm⟩ := own_letter O.out
      rcases HI.out with ⟨h1, h2⟩ | ⟨g, c, h1, h1', _, _, hg, h3⟩
      · obtain ⟨rfl, rfl, rfl⟩ : a = none ∧ lv = 0 ∧ cv = 0 := by injection h1 with h1 h2 h3; exact ⟨h1, h2, h3⟩
        obtain rfl : k = 0 := by omega
        have RN := Lib.hid (show Rd wr (.slice none 0 0) (L.drop 0) from .inl ⟨rfl, by rw [h2]; rfl⟩)
        clear h1 h2
        go_wp2_with fail
        go_quiet (fail)
        replace P0 := Lib.hid (show (wr.drewN nq).heap[w.heap.size]? = _ from P0.out)
        replace P1 := Lib.hid (show (wr.drewN nq).heap[w.heap.size + 1]? = _ from P1.out)
        replace W0 := Lib.hid (Buf.below_drewN W0.out nq)
        replace O := Lib.hid (show OwnS (wr.drewN nq) _ _ _ from O.out)
        have zr' : w.heap.size + 1 < (wr.drewN nq).heap.size := zr
        clear k0 k1 k2 zr
        generalize wr.drewN nq = w6 at *
        obtain ⟨k0, k1, k2⟩ := c3 P0.out
        go_wp2_with fail
        refine (clone_any (L := L.drop 0) (by refine .inl ⟨rfl, ?_⟩; rcases RN.out with h | ⟨_, _, h, _⟩; exact h.2; cases h) (by simp; have := hlv.out; omega)).mono ?_
        rintro e w7 ⟨⟨r, rfl, hr⟩, hb4⟩
        have z7 := hb4.size
        replace P0 := Lib.hid (hb hb4 P0.out)
        replace P1 := Lib.hid (hb hb4 P1.out)
        replace W0 := Lib.hid (Buf.then_ W0.out hb4)
        replace O := Lib.hid (own_below O.out hb4)
        obtain ⟨ra, rm, rc, rfl, hrm⟩ := own_letter hr
        replace hr := Lib.hid (own_mono hr (B' := w.heap.size + 2) (by omega))
        clear hb4 k0 k1 k2
        obtain ⟨k0, k1, k2⟩ := c3 P0.out
        obtain ⟨j0, j1, j2⟩ := f3 P0.out
        have R0 := Lib.hid (st3 P0.out (.slice ra rm rc)).2.2
        have R1 := Lib.hid (st_far (g := w.heap.size) (o := 2) P1.out (by omega) (.slice ra rm rc))
        have OR := Lib.hid (own_far (g := w.heap.size) (o := 2) hr.out (by omega) (.slice ra rm rc))
        have OS := Lib.hid (own_far (g := w.heap.size) (o := 2) O.out (by omega) (.slice ra rm rc))
        have WR := Lib.hid (W0.out.setCell (p := ⟨w.heap.size, 2, none⟩) (Nat.le_refl _) (.slice ra rm rc))
        go_upto_region 12 with fail
        clear k0 k1 k2 j0 j1 j2 hr O
        generalize w7.setCell ⟨w.heap.size, 2, none⟩ (.slice ra rm rc) = w9 at *
        obtain ⟨k0, k1, k2⟩ := c3 R0.out
        obtain ⟨m0, m1, m2⟩ := c3 R1.out
        obtain ⟨j0, j1, j2⟩ := f3 R1.out
        have Z := Lib.hid (st3all R1.out (.int .i64 (now + 1)) (.int .i64 ord) (.slice ra rm rc))
        have OZ := Lib.hid (own_mono (own_far3 (g := w.heap.size + 1) OR.out (by omega) (.int .i64 (now + 1)) (.int .i64 ord) (.slice ra rm rc)) (B' := w.heap.size) (by omega))
        have SZ := Lib.hid (own_mono (own_far3 (g := w.heap.size + 1) OS.out (by omega) (.int .i64 (now + 1)) (.int .i64 ord) (.slice ra rm rc)) (B' := w.heap.size) (by omega))
        have WZ := Lib.hid (below_set3 (g := w.heap.size + 1) WR.out (by omega) (.int .i64 (now + 1)) (.int .i64 ord) (.slice ra rm rc))
        go_wp2
        exact bodyPost_ret (Res.row_tmp2 rfl _ _ (w.heap.size + 1) _ _ _ _ rfl Z.out rfl (by rfl) rfl) rfl ⟨⟨_, _, rfl, OZ.out, SZ.out⟩, WZ.out⟩
      · obtain ⟨rfl, hlc⟩ : a = some ⟨g, 0, none⟩ ∧ lv ≤ cv := by injection h1 with h1 h2 h3; subst h1 h2 h3; exact ⟨rfl, h1'⟩
        by_cases hend : k < lv
        · obtain ⟨⟨at_, od, s⟩, hp⟩ : ∃ p, L[k]? = some p := ⟨L[k]'(by rw [← hlv.out]; omega), List.getElem?_eq_getElem _⟩
          have hne : ¬ at_ = now + 1 := fun e => by have := (DA.out k _ hp (Nat.le_refl _)).1 e; omega
          have c0 := (W0.out.cell (p := ⟨g, _, none⟩) hg).trans (h3 k _ hp).1
          have de : (at_ == now + 1) = false := by rw [beq_eq_false_iff_ne]; exact hne
          have hkl : (k : Int) < lv := by omega
          have hck : ¬ cv = k := by omega
          dsimp only at c0
          clear h1 h1' h3 hp hne
          go_wp2_with fail
          go_quiet (fail)
          replace P0 := Lib.hid (show (wr.drewN nq).heap[w.heap.size]? = _ from P0.out)
          replace P1 := Lib.hid (show (wr.drewN nq).heap[w.heap.size + 1]? = _ from P1.out)
          replace W0 := Lib.hid (Buf.below_drewN W0.out nq)
          replace O := Lib.hid (show OwnS (wr.drewN nq) _ _ _ from O.out)
          have zr' : w.heap.size + 1 < (wr.drewN nq).heap.size := zr
          clear k0 k1 k2 zr c0 de
          generalize wr.drewN nq = w6 at *
          obtain ⟨k0, k1, k2⟩ := c3 P0.out
          go_wp2_with fail
          refine (clone_any (L := L.drop k) (rd_drop (HI.out.below W0.out) hlv.out (by have := hlv.out; omega) _ _ _ (by have := hlv.out; omega) (by omega) (fun hh => by first | rfl | (exfalso; have := hlv.out; omega))) (by simp; have := hlv.out; omega)).mono ?_
          rintro e w7 ⟨⟨r, rfl, hr⟩, hb4⟩
          have z7 := hb4.size
          replace P0 := Lib.hid (hb hb4 P0.out)
          replace P1 := Lib.hid (hb hb4 P1.out)
          replace W0 := Lib.hid (Buf.then_ W0.out hb4)
          replace O := Lib.hid (own_below O.out hb4)
          obtain ⟨ra, rm, rc, rfl, hrm⟩ := own_letter hr
          replace hr := Lib.hid (own_mono hr (B' := w.heap.size + 2) (by omega))
          clear hb4 k0 k1 k2
          obtain ⟨k0, k1, k2⟩ := c3 P0.out
          obtain ⟨j0, j1, j2⟩ := f3 P0.out
          have R0 := Lib.hid (st3 P0.out (.slice ra rm rc)).2.2
          have R1 := Lib.hid (st_far (g := w.heap.size) (o := 2) P1.out (by omega) (.slice ra rm rc))
          have OR := Lib.hid (own_far (g := w.heap.size) (o := 2) hr.out (by omega) (.slice ra rm rc))
          have OS := Lib.hid (own_far (g := w.heap.size) (o := 2) O.out (by omega) (.slice ra rm rc))
          have WR := Lib.hid (W0.out.setCell (p := ⟨w.heap.size, 2, none⟩) (Nat.le_refl _) (.slice ra rm rc))
          go_upto_region 12 with fail
          clear k0 k1 k2 j0 j1 j2 hr O
          generalize w7.setCell ⟨w.heap.size, 2, none⟩ (.slice ra rm rc) = w9 at *
          obtain ⟨k0, k1, k2⟩ := c3 R0.out
          obtain ⟨m0, m1, m2⟩ := c3 R1.out
          obtain ⟨j0, j1, j2⟩ := f3 R1.out
          have Z := Lib.hid (st3all R1.out (.int .i64 (now + 1)) (.int .i64 ord) (.slice ra rm rc))
          have OZ := Lib.hid (own_mono (own_far3 (g := w.heap.size + 1) OR.out (by omega) (.int .i64 (now + 1)) (.int .i64 ord) (.slice ra rm rc)) (B' := w.heap.size) (by omega))
          have SZ := Lib.hid (own_mono (own_far3 (g := w.heap.size + 1) OS.out (by omega) (.int .i64 (now + 1)) (.int .i64 ord) (.slice ra rm rc)) (B' := w.heap.size) (by omega))
          have WZ := Lib.hid (below_set3 (g := w.heap.size + 1) WR.out (by omega) (.int .i64 (now + 1)) (.int .i64 ord) (.slice ra rm rc))
          go_wp2
          exact bodyPost_ret (Res.row_tmp2 rfl _ _ (w.heap.size + 1) _ _ _ _ rfl Z.out rfl (by rfl) rfl) rfl ⟨⟨_, _, rfl, OZ.out, SZ.out⟩, WZ.out⟩
        · obtain rfl : k = lv := by omega
          clear h1 h1' h3
          have hdk : decide ((k : Int) < (k : Int)) = false := by simp
          by_cases hck : cv = k
          · subst hck
            go_wp2_with fail
            go_quiet (fail)
            replace P0 := Lib.hid (show (wr.drewN nq).heap[w.heap.size]? = _ from P0.out)
            replace P1 := Lib.hid (show (wr.drewN nq).heap[w.heap.size + 1]? = _ from P1.out)
            replace W0 := Lib.hid (Buf.below_drewN W0.out nq)
            replace O := Lib.hid (show OwnS (wr.drewN nq) _ _ _ from O.out)
            have zr' : w.heap.size + 1 < (wr.drewN nq).heap.size := zr
            clear k0 k1 k2 zr
            generalize wr.drewN nq = w6 at *
            obtain ⟨k0, k1, k2⟩ := c3 P0.out
            go_wp2_with fail
            refine (clone_any (L := L.drop cv) (rd_drop (HI.out.below W0.out) hlv.out (by have := hlv.out; omega) _ _ _ (by have := hlv.out; omega) (by omega) (fun hh => by first | rfl | (exfalso; have := hlv.out; omega))) (by simp; have := hlv.out; omega)).mono ?_
            rintro e w7 ⟨⟨r, rfl, hr⟩, hb4⟩
            have z7 := hb4.size
            replace P0 := Lib.hid (hb hb4 P0.out)
            replace P1 := Lib.hid (hb hb4 P1.out)
            replace W0 := Lib.hid (Buf.then_ W0.out hb4)
            replace O := Lib.hid (own_below O.out hb4)
            obtain ⟨ra, rm, rc, rfl, hrm⟩ := own_letter hr
            replace hr := Lib.hid (own_mono hr (B' := w.heap.size + 2) (by omega))
            clear hb4 k0 k1 k2
            obtain ⟨k0, k1, k2⟩ := c3 P0.out
            obtain ⟨j0, j1, j2⟩ := f3 P0.out
            have R0 := Lib.hid (st3 P0.out (.slice ra rm rc)).2.2
            have R1 := Lib.hid (st_far (g := w.heap.size) (o := 2) P1.out (by omega) (.slice ra rm rc))
            have OR := Lib.hid (own_far (g := w.heap.size) (o := 2) hr.out (by omega) (.slice ra rm rc))
            have OS := Lib.hid (own_far (g := w.heap.size) (o := 2) O.out (by omega) (.slice ra rm rc))
            have WR := Lib.hid (W0.out.setCell (p := ⟨w.heap.size, 2, none⟩) (Nat.le_refl _) (.slice ra rm rc))
            go_upto_region 12 with fail
            clear k0 k1 k2 j0 j1 j2 hr O
            generalize w7.setCell ⟨w.heap.size, 2, none⟩ (.slice ra rm rc) = w9 at *
            obtain ⟨k0, k1, k2⟩ := c3 R0.out
            obtain ⟨m0, m1, m2⟩ := c3 R1.out
            obtain ⟨j0, j1, j2⟩ := f3 R1.out
            have Z := Lib.hid (st3all R1.out (.int .i64 (now + 1)) (.int .i64 ord) (.slice ra rm rc))
            have OZ := Lib.hid (own_mono (own_far3 (g := w.heap.size + 1) OR.out (by omega) (.int .i64 (now + 1)) (.int .i64 ord) (.slice ra rm rc)) (B' := w.heap.size) (by omega))
            have SZ := Lib.hid (own_mono (own_far3 (g := w.heap.size + 1) OS.out (by omega) (.int .i64 (now + 1)) (.int .i64 ord) (.slice ra rm rc)) (B' := w.heap.size) (by omega))
            have WZ := Lib.hid (below_set3 (g := w.heap.size + 1) WR.out (by omega) (.int .i64 (now + 1)) (.int .i64 ord) (.slice ra rm rc))
            go_wp2
            exact bodyPost_ret (Res.row_tmp2 rfl _ _ (w.heap.size + 1) _ _ _ _ rfl Z.out rfl (by rfl) rfl) rfl ⟨⟨_, _, rfl, OZ.out, SZ.out⟩, WZ.out⟩
          · have hck' : k < cv := by omega
            go_wp2_with fail
            go_quiet (fail)
            replace P0 := Lib.hid (show (wr.drewN nq).heap[w.heap.size]? = _ from P0.out)
            replace P1 := Lib.hid (show (wr.drewN nq).heap[w.heap.size + 1]? = _ from P1.out)
            replace W0 := Lib.hid (Buf.below_drewN W0.out nq)
            replace O := Lib.hid (show OwnS (wr.drewN nq) _ _ _ from O.out)
            have zr' : w.heap.size + 1 < (wr.drewN nq).heap.size := zr
            clear k0 k1 k2 zr
            generalize wr.drewN nq = w6 at *
            obtain ⟨k0, k1, k2⟩ := c3 P0.out
            go_wp2_with fail
            refine (clone_any (L := L.drop k) (rd_drop (HI.out.below W0.out) hlv.out (by have := hlv.out; omega) _ _ _ (by have := hlv.out; omega) (by omega) (fun hh => by first | rfl | (exfalso; have := hlv.out; omega))) (by simp; have := hlv.out; omega)).mono ?_
            rintro e w7 ⟨⟨r, rfl, hr⟩, hb4⟩
            have z7 := hb4.size
            replace P0 := Lib.hid (hb hb4 P0.out)
            replace P1 := Lib.hid (hb hb4 P1.out)
            replace W0 := Lib.hid (Buf.then_ W0.out hb4)
            replace O := Lib.hid (own_below O.out hb4)
            obtain ⟨ra, rm, rc, rfl, hrm⟩ := own_letter hr
            replace hr := Lib.hid (own_mono hr (B' := w.heap.size + 2) (by omega))
            clear hb4 k0 k1 k2
            obtain ⟨k0, k1, k2⟩ := c3 P0.out
            obtain ⟨j0, j1, j2⟩ := f3 P0.out
            have R0 := Lib.hid (st3 P0.out (.slice ra rm rc)).2.2
            have R1 := Lib.hid (st_far (g := w.heap.size) (o := 2) P1.out (by omega) (.slice ra rm rc))
            have OR := Lib.hid (own_far (g := w.heap.size) (o := 2) hr.out (by omega) (.slice ra rm rc))
            have OS := Lib.hid (own_far (g := w.heap.size) (o := 2) O.out (by omega) (.slice ra rm rc))
            have WR := Lib.hid (W0.out.setCell (p := ⟨w.heap.size, 2, none⟩) (Nat.le_refl _) (.slice ra rm rc))
            go_upto_region 12 with fail
            clear k0 k1 k2 j0 j1 j2 hr O
            generalize w7.setCell ⟨w.heap.size, 2, none⟩ (.slice ra rm rc) = w9 at *
            obtain ⟨k0, k1, k2⟩ := c3 R0.out
            obtain ⟨m0, m1, m2⟩ := c3 R1.out
            obtain ⟨j0, j1, j2⟩ := f3 R1.out
            have Z := Lib.hid (st3all R1.out (.int .i64 (now + 1)) (.int .i64 ord) (.slice ra rm rc))
            have OZ := Lib.hid (own_mono (own_far3 (g := w.heap.size + 1) OR.out (by omega) (.int .i64 (now + 1)) (.int .i64 ord) (.slice ra rm rc)) (B' := w.heap.size) (by omega))
            have SZ := Lib.hid (own_mono (own_far3 (g := w.heap.size + 1) OS.out (by omega) (.int .i64 (now + 1)) (.int .i64 ord) (.slice ra rm rc)) (B' := w.heap.size) (by omega))
            have WZ := Lib.hid (below_set3 (g := w.heap.size + 1) WR.out (by omega) (.int .i64 (now + 1)) (.int .i64 ord) (.slice ra rm rc))
            go_wp2
            exact bodyPost_ret (Res.row_tmp2 rfl _ _ (w.heap.size + 1) _ _ _ _ rfl Z.out rfl (by rfl) rfl) rfl ⟨⟨_, _, rfl, OZ.out, SZ.out⟩, WZ.out⟩
end Lnk
end Go.Proofs.Ytjgbidnijfecoaa
