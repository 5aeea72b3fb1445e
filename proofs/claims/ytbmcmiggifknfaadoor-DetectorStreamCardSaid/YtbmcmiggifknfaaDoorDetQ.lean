/- The closure of DetectorPrefix; the reference's Same. -/
import Derived.Test.YtbmcmiggifknfaaDoorDetU
import Derived.Test.YtbmcmiggifknfaaDoorDetP
import Derived.Test.YtbmcmiggifknfaaDoorDetR
import Derived.ArgAppend
import Derived.Laws.StructEq
set_option linter.unusedVariables false
set_option linter.unusedSimpArgs false
namespace Go.Proofs.YtbmcmiggifknfaaDoor
open Go.RowKit Wi Dice
namespace Det
theorem TS.form {w : World} {v : Value} {n : Nat} {l : List Tr} (h : TS w v n l) : ∃ a c, v = .slice a n c ∧ n ≤ c := by
  obtain ⟨a, c, e, _, h1, _⟩ := h; exact ⟨a, c, e, h1⟩
theorem TS.len {w : World} {v : Value} {n : Nat} {l : List Tr} (h : TS w v n l) : n = l.length := by
  obtain ⟨_, _, _, h, _⟩ := h; exact h
set_option maxHeartbeats 4000000 in
set_option maxRecDepth 100000 in
theorem same_any {w : World} {v u : Value} {n : Nat} {l : List Tr} (hv : TS w v n l) (hu : TS w u n l) (hn : n ≤ 1000000) :
    Calls Tryd.prog 18 #[v, u] w fun e w' => e = .returned (.bool true) ∧ Below w.heap.size w w' := by
  obtain ⟨a, c, rfl, hc⟩ := hv.form
  obtain ⟨b, d, rfl, hd⟩ := hu.form
  replace hv := Lib.hid hv
  replace hu := Lib.hid hu
  go_enter Tryd.func18, Tryd.ntmps18
  go_wp2_with fail
  go_loopw [5] (fun i wr => ∃ k : Nat, k ≤ n ∧ i = .int .i64 k ∧ Hid (Below w.heap.size w wr)) (fun i _ => n - (intOf i).toNat)
  case atStart => exact ⟨0, by omega, rfl, Lib.hid (Below.refl _ _)⟩
  case round =>
    obtain ⟨k, hk, rfl, hb⟩ := hrel
    by_cases hlt : k < n
    · obtain ⟨t, ht⟩ : ∃ t, l[k]? = some t := ⟨l[k]'(by rw [← hv.out.len]; exact hlt), by simp⟩
      obtain ⟨g, rfl, _, _, x0, x1, x2⟩ := (hv.out.below hb.out).at ht
      obtain ⟨g', rfl, _, _, y0, y1, y2⟩ := (hu.out.below hb.out).at ht
      obtain ⟨on, off, pk⟩ := t
      simp only at x0 x1 x2 y0 y1 y2
      go_wp2_with fail
      go_quiet (fail)
      go_wp2_with fail
      go_roundw
      case rel => exact ⟨k + 1, by omega, by go_num, Lib.hid (Buf.below_drewN hb.out _)⟩
      case measure => simp [intOf]; omega
    · obtain rfl : n = k := by omega
      go_wp2_with fail
      go_ret
      exact ⟨rfl, hb.out⟩
theorem cell_below {w w' : World} (h : Hid (Below w.heap.size w w')) {g o : Nat} {v : Value} (hg : g < w.heap.size) (hc : w.cell? ⟨g, o, none⟩ = some v) : w'.cell? ⟨g, o, none⟩ = some v :=
  (h.out.cell (p := ⟨g, o, none⟩) hg).trans hc
/-- An append that must grow, at one operation. -/
theorem wp_grows {P : Program} {w : World} {o : Oper} {a : Act} {K : Act → World → Prop} {Q : Exit → Act → World → Prop} (s x : Operand) (t : TypeId)
    (ho : o.op = .call { callee := .builtin .append, args := #[s, x], argTypes := #[t, t] })
    (e : TypeId) (i : TypeInfo) (z : Value) (size bytes : Nat) (ht : P.underlying t = some (.slice e)) (hi : P.info? e = some i) (hz : i.zero = some z)
    (hsize : i.size = size) (hby : i.bytes = bytes) (hzs : z.cells.size = size) (hsz : 0 < size)
    (b : Addr) (n cap : Nat) (olds : List Value) (hs : a.eval s = .slice (some b) n cap) (hlo : olds.length = n * size) (holds : ∀ j u, olds[j]? = some u → w.cell? (b.add j) = some u)
    (ad : Addr) (m c : Nat) (news : List Value) (hx : a.eval x = .slice (some ad) m c) (hl : news.length = m * size) (hnews : ∀ j u, news[j]? = some u → w.cell? (ad.add j) = some u)
    (hg : cap < n + m) (h63 : n + m ≤ maxLen) (hbytes : (n + m) * bytes ≤ 140737488355328)
    (h : ∀ v' w', w'.ownsRow w.heap.size e size v' (n + m) (olds ++ news) → w.grownBy w' none → K (a.put o.dst v') w') : o.wp P a w K Q := by
  obtain ⟨v', w', hr, h2, h3⟩ := run_append_arg_grows (P := P) w t o.type e i z size bytes ht hi hz hsize hby hzs hsz b n cap olds hlo holds ad m c news hl hnews hg h63 hbytes
  unfold Oper.wp execOp
  simp only [ho, resolve, invoke, builtin, Sem.run_bind, Sem.run_pure, Result.andThen_ok, List.map_toArray, List.map_cons, List.map_nil, hs, hx, hr]
  exact h v' w' h2 h3
theorem ints_read {w : World} {g o : Nat} {x : List Int} (h : ∀ j, j < x.length → w.cell? ⟨g, o + j, none⟩ = some (.int .i64 (fn x j))) (j : Nat) (u : Value) (hu : (ints x)[j]? = some u) : w.cell? ((⟨g, o, none⟩ : Addr).add j) = some u := by
  have hj : j < x.length := by have := (List.getElem?_eq_some_iff.1 hu).1; rwa [ints_len] at this
  rw [Addr.add_lit, h j hj]
  unfold ints at hu
  rw [List.getElem?_map, List.getElem?_eq_getElem hj] at hu
  rw [← hu]
  simp [fn, List.getD_eq_getElem?_getD, List.getElem?_eq_getElem hj]
theorem sv_cells {w : World} {g o n c : Nat} {x : List Int} (h : SV w (.slice (some ⟨g, o, none⟩) n c) n (fn x)) (hx : x.length = n) : ∀ j, j < x.length → w.cell? ⟨g, o + j, none⟩ = some (.int .i64 (fn x j)) := by
  intro j hj
  obtain ⟨a', c', e, _, _, h3⟩ := h
  cases e
  obtain ⟨b', off', e2, _, h5⟩ := h3 (by omega)
  cases e2
  exact h5 j (by omega)
theorem ints_append (a b : List Int) : ints (a ++ b) = ints a ++ ints b := by simp [ints]
theorem fn_lead (D : Nat) (x : List Int) (j : Nat) : fn (List.replicate D 0 ++ x) (D + j) = fn x j := by
  unfold fn
  simp only [List.getD_eq_getElem?_getD]
  rw [List.getElem?_append_right (by simp)]
  simp
theorem runL_bd (d : Dt) (V : Nat → Int) (hL : 1 ≤ d.L) (hV : ∀ j, 0 ≤ V j) (n : Nat) : ∀ t ∈ runL d V n, 0 ≤ t.on ∧ t.on ≤ n ∧ -1 ≤ t.off ∧ t.off ≤ n := by
  obtain ⟨h1, h2, h3, h4⟩ := trs_any d V hL hV n
  intro t ht
  unfold runL at ht
  rcases List.mem_append.1 ht with ht | ht
  · obtain ⟨i, hi, rfl⟩ := List.mem_iff_getElem.1 ht
    have := h1 i _ (List.getElem?_eq_getElem hi)
    omega
  · split at ht
    · cases ht
    · obtain rfl := List.mem_singleton.1 ht
      have := h4 (by omega)
      omega
/-- A trigger is open at the index. -/
def opn (thr : Int) (l : List Tr) : Bool := l.any fun y => decide (y.on < thr) && (decide (y.off < 0) || decide (thr < y.off))
theorem opn_snoc (thr : Int) (l : List Tr) (j : Nat) (t : Tr) (h : l[j]? = some t) : opn thr (l.take (j + 1)) = (opn thr (l.take j) || (decide (t.on < thr) && (decide (t.off < 0) || decide (thr < t.off)))) := by
  unfold opn
  rw [List.take_add_one, h]
  simp
theorem opn_no {thr : Int} {l : List Tr} (h : opn thr l = false) : Cls l thr := by
  intro t ht h1
  unfold opn at h
  have h2 := List.any_eq_false.1 h t ht
  simp only [Bool.and_eq_true, Bool.or_eq_true, decide_eq_true_eq] at h2
  omega
theorem sel_snoc (D : Int) (l : List Tr) (k : Nat) (t : Tr) (h : l[k]? = some t) : selL D (l.take (k + 1)) = selL D (l.take k) ++ (if D ≤ t.on then [t] else []) := by
  unfold selL
  rw [List.take_add_one, h, List.filter_append]
  congr 1
  show List.filter _ [t] = _
  by_cases hh : D ≤ t.on
  · rw [if_pos hh, List.filter_cons_of_pos (by simpa using hh)]; rfl
  · rw [if_neg hh, List.filter_cons_of_neg (by simpa using hh)]; rfl
theorem late_snoc (D : Int) (l : List Tr) (k : Nat) (t : Tr) (h : l[k]? = some t) : lateL D (l.take (k + 1)) = lateL D (l.take k) ++ lateL D [t] := by
  rw [← lateL_append]
  congr 1
  rw [List.take_add_one, h]
  rfl
set_option maxHeartbeats 8000000 in
set_option maxRecDepth 100000 in
theorem late_any {w : World} {v : Value} {n : Nat} {l : List Tr} {D : Int} (hv : TS w v n l) (hn : n ≤ 10000) (hD : 0 ≤ D ∧ D ≤ 1000000) (hl : ∀ t ∈ l, 0 ≤ t.on ∧ t.on ≤ 1000000 ∧ -1 ≤ t.off ∧ t.off ≤ 1000000) :
    Calls Tryd.prog 19 #[v, .int .i64 D] w fun e w' => (∃ r, e = .returned r ∧ w'.ownsRow w.heap.size 32 3 r (lateL D l).length (row (lateL D l))) ∧ Below w.heap.size w w' := by
  obtain ⟨i0, hi, hz0, hz1, hz2⟩ := info_parts infoT
  obtain ⟨a, c, rfl, hc⟩ := hv.form
  replace hv := Lib.hid hv
  replace hl := Lib.hid hl
  have O0 : Hid (w.ownsRow w.heap.size 32 3 (.slice none 0 0) (lateL D (l.take 0)).length (row (lateL D (l.take 0)))) := Lib.hid (World.ownsRow_nil _ _ _ _)
  go_enter Tryd.func19, Tryd.ntmps19
  go_wp2_with fail
  go_loopw [5, 10] (fun r i wr => ∃ k : Nat, k ≤ n ∧ i = .int .i64 k ∧ Hid (wr.ownsRow w.heap.size 32 3 r (lateL D (l.take k)).length (row (lateL D (l.take k)))) ∧ Hid (Below w.heap.size w wr)) (fun _ i _ => n - (intOf i).toNat)
  case atStart => exact ⟨0, by omega, rfl, O0, Lib.hid (Below.refl _ _)⟩
  case round =>
    clear O0
    obtain ⟨k, hk, rfl, O, hb⟩ := hrel
    by_cases hlt : k < n
    · obtain ⟨t, ht⟩ : ∃ t, l[k]? = some t := ⟨l[k]'(by rw [← hv.out.len]; exact hlt), by simp⟩
      obtain ⟨g, rfl, _, hg, x0, x1, x2⟩ := (hv.out.below hb.out).at ht
      have tb := hl.out t (List.mem_of_getElem? ht)
      have SN := late_snoc D l k t ht
      have hm : (lateL D (l.take k)).length ≤ 10000 := by
        unfold lateL
        rw [List.length_map]
        have := List.length_filter_le (fun y : Tr => decide (D ≤ y.on)) (l.take k)
        rw [List.length_take] at this
        omega
      generalize lateL D (l.take k) = M at *
      obtain ⟨on, off, pk⟩ := t
      simp only at x0 x1 x2 tb
      obtain ⟨w2, hw2⟩ : ∃ w2, w2 = wr.alloc (.cells #[.int .i64 on, .int .i64 off, .int .i64 pk] 32) := ⟨_, rfl⟩
      obtain ⟨p7, hp7⟩ : ∃ p, p = wr.heap.size := ⟨_, rfl⟩
      have hb2 : Below wr.heap.size wr w2 := by rw [hw2]; exact new_block _
      have K2 := Lib.hid (show w2.heap[p7]? = some (.cells #[.int .i64 on, .int .i64 off, .int .i64 pk] 32 (0, 0)) by rw [hw2, hp7]; exact heap_alloc_new wr _)
      have B2 := Lib.hid (Buf.then_ hb.out hb2)
      have hp9 : Hid (w.heap.size ≤ p7) := Lib.hid (by rw [hp7]; exact hb.out.size)
      have O2 := Lib.hid (own_kept O.out (fun b e => (hb2.block b (by have := O.out.lt b e; omega))) : w2.ownsRow w.heap.size 32 3 u5 M.length (row M))
      have hne : Hid (∀ b, u5.ownBlock = some b → b ≠ p7) := Lib.hid fun b e => by have := O.out.lt b e; omega
      go_upto_region 5 with fail
      rw [← hw2, ← hp7]
      clear hw2 hp7 hb2 x0 x1 x2 O hb ht
      obtain ⟨y0, y1, y2⟩ := c3 K2.out
      obtain ⟨f0, f1, f2⟩ := f3 K2.out
      by_cases hon : D ≤ on
      · obtain ⟨w3, hw3⟩ : ∃ w3, w3 = w2.setCell ⟨p7, 0, none⟩ (.int .i64 (on - D)) := ⟨_, rfl⟩
        have K3 := Lib.hid (show w3.heap[p7]? = some (.cells #[.int .i64 (on - D), .int .i64 off, .int .i64 pk] 32 (0, 0)) by rw [hw3]; exact (heap_setCell_same w2 p7 0 _ _ _ K2.out).trans rfl)
        have O3 := Lib.hid (own_kept O2.out (fun b e => by rw [hw3]; exact Below.heap_setCell w2 ⟨p7, 0, none⟩ _ b (hne.out b e)) : w3.ownsRow w.heap.size 32 3 u5 M.length (row M))
        have B3 := Lib.hid (show Below w.heap.size w w3 by rw [hw3]; exact B2.out.setCell (p := ⟨p7, 0, none⟩) hp9.out _)
        go_upto_region 7 with fail
        rw [← hw3]
        clear hw3 y0 y1 y2 f0 f1 f2 K2 O2 B2
        obtain ⟨y0, y1, y2⟩ := c3 K3.out
        obtain ⟨f0, f1, f2⟩ := f3 K3.out
        by_cases hof : 0 ≤ off
        · have eqL : lateL D [⟨on, off, pk⟩] = [⟨on - D, off - D, pk⟩] := by
            unfold lateL
            rw [List.filter_cons_of_pos (by simp only [decide_eq_true_eq]; omega)]
            simp only [List.filter_nil, List.map_cons, List.map_nil]
            rw [if_pos hof]
          obtain ⟨w4, hw4⟩ : ∃ w4, w4 = w3.setCell ⟨p7, 1, none⟩ (.int .i64 (off - D)) := ⟨_, rfl⟩
          have KW : w4.heap[p7]? = some (.cells #[.int .i64 (on - D), .int .i64 (off - D), .int .i64 pk] 32 (0, 0)) := by rw [hw4]; exact (heap_setCell_same w3 p7 1 _ _ _ K3.out).trans rfl
          have OW : w4.ownsRow w.heap.size 32 3 u5 M.length (row M) := own_kept O3.out (fun b e => by rw [hw4]; exact Below.heap_setCell w3 ⟨p7, 1, none⟩ _ b (hne.out b e))
          have BW : Below w.heap.size w w4 := by rw [hw4]; exact B3.out.setCell (p := ⟨p7, 1, none⟩) hp9.out _
          go_upto_region 9 with fail
          rw [← hw4]
          clear hw4 y0 y1 y2 f0 f1 f2 K3 O3 B3
          have own := Lib.hid OW
          have hsz : w.heap.size ≤ w4.heap.size := BW.size
          have m1 : Hid (M.length + 1 ≤ maxLen) := Lib.hid (by unfold maxLen; omega)
          have m2 : Hid ((M.length + 1) * 24 ≤ 140737488355328) := Lib.hid (by omega)
          replace BW := Lib.hid BW
          obtain ⟨d0, d1, d2⟩ := c3 KW
          clear OW KW hne
          go_upto_region 10 with (at_builtin; refine Tri.append3 rfl _ _ 38 rfl w.heap.size 32 _ i0 _ 24 Tryd.underlying38 hi hz0 hz1 hz2 rfl rfl own.out hsz _ _ _ rfl rfl rfl rfl m1.out m2.out ?_; intro v' w7 hown' hg)
          have OE := Lib.hid (show w7.ownsRow w.heap.size 32 3 v' (lateL D (l.take (k + 1))).length (row (lateL D (l.take (k + 1)))) by
            rw [SN, eqL, List.length_append, row_snoc]; exact hown')
          have BE := Lib.hid ((Buf.then_ BW.out (new_block (.cells #[.int .i64 (on - D), .int .i64 (off - D), .int .i64 pk] 32))).grown hg (by simp; omega) (fun b hb => (own.out.lt b hb).1))
          clear hown' hg own
          go_wp2_with fail
          go_roundw
          case rel => exact ⟨k + 1, by omega, by go_num, OE, BE⟩
          case measure => simp [intOf]; omega
        · have eqL : lateL D [⟨on, off, pk⟩] = [⟨on - D, off, pk⟩] := by
            unfold lateL
            rw [List.filter_cons_of_pos (by simp only [decide_eq_true_eq]; omega)]
            simp only [List.filter_nil, List.map_cons, List.map_nil]
            rw [if_neg hof]
          have KW := K3.out
          have OW := O3.out
          have BW := B3.out
          clear y0 y1 y2 f0 f1 f2 K3 O3 B3
          obtain ⟨y0, y1, y2⟩ := c3 KW
          go_upto_region 9 with fail
          clear y0 y1 y2
          have own := Lib.hid OW
          have hsz : w.heap.size ≤ w3.heap.size := BW.size
          have m1 : Hid (M.length + 1 ≤ maxLen) := Lib.hid (by unfold maxLen; omega)
          have m2 : Hid ((M.length + 1) * 24 ≤ 140737488355328) := Lib.hid (by omega)
          replace BW := Lib.hid BW
          obtain ⟨d0, d1, d2⟩ := c3 KW
          clear OW KW hne
          go_upto_region 10 with (at_builtin; refine Tri.append3 rfl _ _ 38 rfl w.heap.size 32 _ i0 _ 24 Tryd.underlying38 hi hz0 hz1 hz2 rfl rfl own.out hsz _ _ _ rfl rfl rfl rfl m1.out m2.out ?_; intro v' w7 hown' hg)
          have OE := Lib.hid (show w7.ownsRow w.heap.size 32 3 v' (lateL D (l.take (k + 1))).length (row (lateL D (l.take (k + 1)))) by
            rw [SN, eqL, List.length_append, row_snoc]; exact hown')
          have BE := Lib.hid ((Buf.then_ BW.out (new_block (.cells #[.int .i64 (on - D), .int .i64 (off), .int .i64 pk] 32))).grown hg (by simp; omega) (fun b hb => (own.out.lt b hb).1))
          clear hown' hg own
          go_wp2_with fail
          go_roundw
          case rel => exact ⟨k + 1, by omega, by go_num, OE, BE⟩
          case measure => simp [intOf]; omega
      · have eqL : lateL D [⟨on, off, pk⟩] = [] := by
          unfold lateL
          rw [List.filter_cons_of_neg (by simp only [decide_eq_true_eq]; omega)]
          rfl
        have OE := Lib.hid (show w2.ownsRow w.heap.size 32 3 u5 (lateL D (l.take (k + 1))).length (row (lateL D (l.take (k + 1)))) by
          rw [SN, eqL, List.append_nil]; exact O2.out)
        go_wp2_with fail
        go_roundw
        case rel => exact ⟨k + 1, by omega, by go_num, OE, B2⟩
        case measure => simp [intOf]; omega
    · obtain rfl : n = k := by omega
      have eT : l.take n = l := List.take_of_length_le (by rw [hv.out.len]; omega)
      rw [eT] at O
      go_wp2_with fail
      go_ret
      exact ⟨⟨_, rfl, O.out⟩, hb.out⟩
end Det
end Go.Proofs.YtbmcmiggifknfaaDoor
