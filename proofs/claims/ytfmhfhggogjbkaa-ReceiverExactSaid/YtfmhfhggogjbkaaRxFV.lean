/- RxFV: texts joined. -/
import Derived.Test.YtfmhfhggogjbkaaRxAD
import Derived.Deep.DeepCutAuto
import Derived.Test.YtfmhfhggogjbkaaWithinN
import Derived.Test.YtfmhfhggogjbkaaInv
/- Receivers of any lists: what is valid; Valid, and what is refused. -/
set_option linter.unusedVariables false
set_option linter.unusedSimpArgs false
namespace Go.Proofs.Ytfmhfhggogjbkaa
open Go.RowKit Dice Wi
namespace Rx
open Spn
open Sp (cells2 cells2_snoc cells2_get Spans own_kept own_below own_mono own_shape)
/-- A set of numbers from 0 to MaxSeq. -/
def VS (L : LP) : Prop := Canon L ∧ Inside L 0 1073741825
/-- A valid receiver. -/
def OkR (G L : LP) : Prop := VS G ∧ VS L ∧ ∀ x, (hasB G x && hasB L x) = false
/-- The end of a list. -/
def endL (L : LP) : Int := match L.getLast? with | none => 0 | some p => p.2
structure Rq (w : World) (vg vl : Value) (G L : LP) : Prop where
  got : Itw w vg G
  lost : Itw w vl L
  g9 : G.length ≤ 40
  l9 : L.length ≤ 40
theorem Rq.keep {w w' : World} {vg vl : Value} {G L : LP} (h : Rq w vg vl G L) (hb : Below w.heap.size w w') : Rq w' vg vl G L := ⟨h.got.keep hb, h.lost.keep hb, h.g9, h.l9⟩
theorem Rq.rc {w : World} {vg vl : Value} {G L : LP} (h : Rq w vg vl G L) (k : OkR G L) : Rc w vg vl (hasB G) (hasB L) :=
  ⟨⟨G, h.got, Is.self k.1.1, h.g9, k.1.2⟩, ⟨L, h.lost, Is.self k.2.1.1, h.l9, k.2.1.2⟩, k.2.2⟩
theorem Rq.form {w : World} {vg vl : Value} {G L : LP} (h : Rq w vg vl G L) : ∃ a n c a' n' c', vg = .slice a n c ∧ vl = .slice a' n' c' := by
  obtain ⟨a, c, e, _⟩ := itw_form h.got
  obtain ⟨a', c', e', _⟩ := itw_form h.lost
  exact ⟨a, _, c, a', _, c', e, e'⟩
theorem vs_ends {L : LP} (hC : Canon L) {n : Nat} {p q : Int × Int} (h0 : L[0]? = some p) (hn : L[n]? = some q) (hl : n + 1 = L.length) (h1 : 0 ≤ p.1) (h2 : q.2 ≤ 1073741825) : VS L := by
  refine ⟨hC, fun r hr => ?_⟩
  obtain ⟨i, hi, rfl⟩ := List.mem_iff_getElem.1 hr
  have hri : L[i]? = some L[i] := List.getElem?_eq_getElem _
  have o := hC.at hri
  constructor
  · by_cases e : i = 0
    · subst e; rw [hri] at h0; injection h0 with h0; rw [h0]; exact h1
    · have a := hC.get (show 0 < i by omega) h0 hri
      have b := hC.at h0
      omega
  · by_cases e : i = n
    · subst e; rw [hri] at hn; injection hn with hn; rw [hn]; exact h2
    · have a := hC.get (show i < n by omega) hri hn
      have b := hC.at hn
      omega
set_option maxHeartbeats 2000000 in
theorem end_gen {w : World} {v : Value} {L : LP} (h : Itw w v L) (h9 : L.length ≤ 100) :
    Calls Try.prog 67 #[v] w fun e w' => e = .returned (.int .i64 (endL L)) ∧ w' = w := by
  obtain ⟨ad, c, rfl, hc, hf⟩ := itw_form h
  clear h
  rcases Nat.eq_zero_or_pos L.length with h0 | h0
  · obtain rfl : L = [] := List.length_eq_zero_iff.1 h0
    clear hf h0 h9
    simp only [List.length_nil]
    go_enter Try.func67, Try.ntmps67
    go_wp2_with fail
    go_ret
    exact ⟨rfl, rfl⟩
  · obtain ⟨n, hn⟩ : ∃ n, L.length = n + 1 := ⟨L.length - 1, by omega⟩
    obtain ⟨q, hq⟩ : ∃ q, L[n]? = some q := ⟨L[n]'(by omega), List.getElem?_eq_getElem _⟩
    obtain ⟨g, o, rfl, hg, _, k1⟩ := hf n q hq
    have E : Hid (endL L = q.2) := Lib.hid (by
      unfold endL
      rw [List.getLast?_eq_getElem?, show L.length - 1 = n by omega, hq])
    rw [E.out]
    rw [hn] at hc h9 ⊢
    obtain ⟨f, t⟩ := q
    dsimp only at k1 ⊢
    have hcn : n < c := by omega
    have en : ((n + 1 : Nat) : Int) - 1 = (n : Int) := by omega
    have eq0 : (((n + 1 : Nat) : Int) == 0) = false := by simp; omega
    clear hf h0 E hq hn
    go_enter Try.func67, Try.ntmps67
    go_wp2_with fail
    go_ret
    exact ⟨rfl, rfl⟩
set_option maxHeartbeats 2000000 in
theorem validSet_no {w : World} {v : Value} {L : LP} (h : Itw w v L) (h9 : L.length ≤ 100) (no : ¬ VS L) :
    Calls Try.prog 69 #[v] w fun e w' => e = .returned (.bool false) ∧ Below w.heap.size w w' := by
  have EE := Lib.hid fun wx (hb : Below w.heap.size w wx) => end_gen (h.keep hb) h9
  by_cases hC : Canon L
  · have VV := Lib.hid (valid_anyw true (by simp [hC]) h (by omega))
    obtain ⟨ad, c, rfl, hc, hf⟩ := itw_form h
    rcases Nat.eq_zero_or_pos L.length with h0 | h0
    · obtain rfl : L = [] := List.length_eq_zero_iff.1 h0
      exact absurd ⟨hC, fun p hp => by cases hp⟩ no
    · obtain ⟨n, hn⟩ : ∃ n, L.length = n + 1 := ⟨L.length - 1, by omega⟩
      obtain ⟨q, hq⟩ : ∃ q, L[n]? = some q := ⟨L[n]'(by omega), List.getElem?_eq_getElem _⟩
      obtain ⟨p, hp⟩ : ∃ p, L[0]? = some p := ⟨L[0]'(by omega), List.getElem?_eq_getElem _⟩
      have E : endL L = q.2 := by
        unfold endL
        rw [List.getLast?_eq_getElem?, show L.length - 1 = n by omega, hq]
      rw [E] at EE
      have hbad : p.1 < 0 ∨ (0 ≤ p.1 ∧ 1073741825 < q.2) := by
        rcases Int.lt_or_le p.1 0 with a | a
        · exact .inl a
        · rcases Int.lt_or_le 1073741825 q.2 with b | b
          · exact .inr ⟨a, b⟩
          · exact absurd (vs_ends hC hp hq (by omega) a b) no
      obtain ⟨g, o, rfl, hg, c0, _⟩ := hf 0 p hp
      simp only [Nat.zero_mul, Nat.add_zero] at c0
      rw [hn] at hc h9 VV EE ⊢
      obtain ⟨f, t⟩ := p
      obtain ⟨f1, t1⟩ := q
      dsimp only at c0 hbad EE ⊢
      have eq0 : (((n + 1 : Nat) : Int) == 0) = false := by simp; omega
      have eq1 : ((n : Int) + 1 == 0) = false := by simp; omega
      have hc0 : 0 < c := by omega
      have hn0 : 0 < n + 1 := by omega
      clear hf h0 E hq hn hp no hC h
      go_enter Try.func69, Try.ntmps69
      go_wp2_with fail
      refine VV.out.mono ?_
      rintro e w1 ⟨rfl, hb⟩
      have c0' := (hb.cell (p := ⟨g, _, none⟩) hg).trans c0
      have E1 := Lib.hid (EE.out w1 hb)
      replace hb := Lib.hid hb
      clear c0 VV EE
      rcases hbad with hlt | ⟨h1, h2⟩
      · have d1 : decide (0 ≤ f) = false := decide_eq_false (by omega)
        go_wp2_with fail
        go_ret
        exact ⟨rfl, hb.out⟩
      · have d1 : decide (0 ≤ f) = true := decide_eq_true (by omega)
        have d2 : decide (t1 ≤ 1073741825) = false := decide_eq_false (by omega)
        go_wp2_with fail
        refine E1.out.mono ?_
        rintro e w2 ⟨rfl, hw⟩
        replace hw := hw.symm
        subst hw
        go_wp2_with fail
        go_ret
        exact ⟨rfl, hb.out⟩
  · have VV := Lib.hid (valid_anyw false (by simp [hC]) h (by omega))
    obtain ⟨ad, c, rfl, hc, hf⟩ := itw_form h
    clear EE no hC hf
    go_enter Try.func69, Try.ntmps69
    go_wp2_with fail
    refine VV.out.mono ?_
    rintro e w1 ⟨rfl, hb⟩
    go_wp2_with fail
    go_ret
    exact ⟨rfl, hb⟩
set_option maxHeartbeats 4000000 in
theorem valid_no {w : World} {vg vl : Value} {G L : LP} (h : Rq w vg vl G L) (no : ¬ OkR G L) :
    Calls Try.prog 48 #[.agg #[vg, vl]] w fun e w' => e = .returned (.bool false) ∧ Below w.heap.size w w' := by
  obtain ⟨ga, gn, gc, la, ln, lc, rfl, rfl⟩ := h.form
  have B0 := Lib.hid (new_block (w := w) (.cells #[.slice ga gn gc, .slice la ln lc] 46))
  have P0 := Lib.hid fun wx (hb : Below (w.alloc (.cells #[.slice ga gn gc, .slice la ln lc] 46)).heap.size (w.alloc (.cells #[.slice ga gn gc, .slice la ln lc] 46)) wx) => c2 (hop hb (heap_alloc_new w (.cells #[.slice ga gn gc, .slice la ln lc] 46)))
  have HR := Lib.hid h
  go_enter Try.func48, Try.ntmps48
  obtain ⟨wb, hwb⟩ : ∃ wb, wb = w.alloc (.cells #[.slice ga gn gc, .slice la ln lc] 46) := ⟨_, rfl⟩
  rw [← hwb] at B0 P0
  obtain ⟨k0, k1⟩ := P0.out wb (Below.refl _ _)
  by_cases hG : VS G
  · have V1 := Lib.hid fun wx (hb : Below w.heap.size w wx) => validSet_any (show Sw wx (.slice ga gn gc) (hasB G) 40 from ⟨G, (HR.out.keep hb).got, Is.self hG.1, h.g9, hG.2⟩)
    by_cases hL : VS L
    · have V2 := Lib.hid fun wx (hb : Below w.heap.size w wx) => validSet_any (show Sw wx (.slice la ln lc) (hasB L) 40 from ⟨L, (HR.out.keep hb).lost, Is.self hL.1, h.l9, hL.2⟩)
      have M := Lib.hid fun wx (hb : Below w.heap.size w wx) => meet_sw (show Rw wx (.slice ga gn gc) (hasB G) 40 from ⟨G, (HR.out.keep hb).got, fun _ => rfl, h.g9, hG.2⟩) (show Rw wx (.slice la ln lc) (hasB L) 40 from ⟨L, (HR.out.keep hb).lost, fun _ => rfl, h.l9, hL.2⟩) (by omega) (by omega)
      have AP : Hid (∃ x, (hasB G x && hasB L x) = true) := Lib.hid (by
        refine Classical.byContradiction fun hh => no ⟨hG, hL, fun x => ?_⟩
        rw [← Bool.not_eq_true]
        exact fun e => hh ⟨x, e⟩)
      clear no h
      go_wp2_with fail
      rw [← hwb]
      refine (V1.out wb B0.out).mono ?_
      rintro e w1 ⟨rfl, hb⟩
      clear k0 k1
      have BB := Lib.hid (Buf.then_ (Below.refl _ _) hb)
      obtain ⟨k0, k1⟩ := P0.out w1 BB.out
      clear hb
      go_wp2_with fail
      refine (V2.out w1 (Buf.then_ B0.out BB.out)).mono ?_
      rintro e w2 ⟨rfl, hb⟩
      clear k0 k1
      replace BB := Lib.hid (Buf.then_ BB.out hb)
      obtain ⟨k0, k1⟩ := P0.out w2 BB.out
      clear hb
      go_wp2_with fail
      refine (M.out w2 (Buf.then_ B0.out BB.out)).mono ?_
      rintro e w3 ⟨⟨r, rfl, hS⟩, hb⟩
      obtain ⟨x, hx⟩ := AP.out
      obtain ⟨ra, rn, rc, rfl, hrn, hr9⟩ : ∃ a n c, r = .slice a n c ∧ 0 < n ∧ n ≤ 80 := by
        obtain ⟨N, s1, s2, s3, _⟩ := hS
        obtain ⟨a, c, e, _⟩ := itw_form s1
        refine ⟨a, _, c, e, ?_, by omega⟩
        rcases Nat.eq_zero_or_pos N.length with h0 | h0
        · obtain rfl : N = [] := List.length_eq_zero_iff.1 h0
          have := s2.has x
          rw [hx] at this
          simp [hasB] at this
        · exact h0
      have eq0 : ((rn : Int) == 0) = false := by simp; omega
      clear hS hx
      replace BB := Lib.hid (Buf.then_ (Buf.then_ B0.out BB.out) hb)
      clear hb
      go_wp2_with fail
      go_ret
      exact ⟨rfl, BB.out⟩
    · have V2 := Lib.hid fun wx (hb : Below w.heap.size w wx) => validSet_no (HR.out.keep hb).lost (by have := h.l9; omega) hL
      clear no h
      go_wp2_with fail
      rw [← hwb]
      refine (V1.out wb B0.out).mono ?_
      rintro e w1 ⟨rfl, hb⟩
      clear k0 k1
      have BB := Lib.hid (Buf.then_ (Below.refl _ _) hb)
      obtain ⟨k0, k1⟩ := P0.out w1 BB.out
      clear hb
      go_wp2_with fail
      refine (V2.out w1 (Buf.then_ B0.out BB.out)).mono ?_
      rintro e w2 ⟨rfl, hb⟩
      replace BB := Lib.hid (Buf.then_ (Buf.then_ B0.out BB.out) hb)
      clear hb
      go_wp2_with fail
      go_ret
      exact ⟨rfl, BB.out⟩
  · have V1 := Lib.hid fun wx (hb : Below w.heap.size w wx) => validSet_no (HR.out.keep hb).got (by have := h.g9; omega) hG
    clear no h
    go_wp2_with fail
    rw [← hwb]
    refine (V1.out wb B0.out).mono ?_
    rintro e w1 ⟨rfl, hb⟩
    have BB := Lib.hid (Buf.then_ B0.out hb)
    clear hb
    go_wp2_with fail
    go_ret
    exact ⟨rfl, BB.out⟩
set_option maxHeartbeats 4000000 in
set_option maxRecDepth 100000 in
theorem accept_inv {w : World} {vg vl : Value} {G L : LP} (h : Rq w vg vl G L) (q : Int) (no : ¬ OkR G L) :
    Calls Try.prog 39 #[.agg #[vg, vl], .int .i64 q] w fun e w' => e = .returned (.tuple #[.agg #[.slice none 0 0, .slice none 0 0], .bool false, .int .i64 1]) ∧ Below w.heap.size w w' := by
  obtain ⟨ga, gn, gc, la, ln, lc, rfl, rfl⟩ := h.form
  have HR := Lib.hid h
  clear h
  go_enter Try.func39, Try.ntmps39
  obtain ⟨wb, hwb⟩ : ∃ wb, wb = (w.alloc (.cells #[.slice ga gn gc, .slice la ln lc] 46)).alloc (.cells #[.slice none 0 0, .slice none 0 0] 46) := ⟨_, rfl⟩
  have B0 := Lib.hid (show Below w.heap.size w wb by rw [hwb]; exact Buf.then_ (new_block _) (new_block _))
  have PX := Lib.hid (show wb.heap[w.heap.size]? = some (.cells #[.slice ga gn gc, .slice la ln lc] 46 (0, 0)) by rw [hwb]; exact hop (new_block _) (heap_alloc_new w _))
  have PY := Lib.hid (show wb.heap[w.heap.size + 1]? = some (.cells #[.slice none 0 0, .slice none 0 0] 46 (0, 0)) by
    have e : (w.alloc (.cells #[.slice ga gn gc, .slice la ln lc] 46)).heap.size = w.heap.size + 1 := by simp
    rw [hwb, ← e]; exact heap_alloc_new _ _)
  obtain ⟨k0, k1⟩ := Spn.c2 PX.out
  have V := Lib.hid (valid_no (HR.out.keep B0.out) no)
  go_upto_region 1 with fail
  rw [← hwb]
  clear hwb
  go_wp2_with fail
  refine V.out.mono ?_
  rintro e w1 ⟨rfl, hb⟩
  clear k0 k1 V
  have B1 := Lib.hid (Buf.then_ B0.out hb)
  obtain ⟨k0, k1⟩ := Spn.c2 (hop hb PX.out)
  obtain ⟨k2, k3⟩ := Spn.c2 (hop hb PY.out)
  have f0 := frozen_of_row w1 (w.heap.size + 1) 0 _ _ (hop hb PY.out)
  have f1 := frozen_of_row w1 (w.heap.size + 1) 1 _ _ (hop hb PY.out)
  clear hb PX HR no PY
  go_wp2_with fail
  refine bodyPost_ret (v := .tuple #[.agg #[.slice none 0 0, .slice none 0 0], .bool false, .int .i64 1]) (by simp [results, Try.results39, go_sem, k2, k3]) rfl ⟨rfl, ?_⟩
  first | exact B1.out | exact Buf.below_drewN B1.out _ | exact (B1.out.setCell (p := ⟨w.heap.size + 1, 0, none⟩) (Nat.le_succ _) _).setCell (p := ⟨w.heap.size + 1, 1, none⟩) (Nat.le_succ _) _ | exact ((Buf.below_drewN B1.out _).setCell (p := ⟨w.heap.size + 1, 0, none⟩) (Nat.le_succ _) _).setCell (p := ⟨w.heap.size + 1, 1, none⟩) (Nat.le_succ _) _
set_option maxHeartbeats 4000000 in
set_option maxRecDepth 100000 in
theorem lose_inv {w : World} {vg vl : Value} {G L : LP} (h : Rq w vg vl G L) (q : Int) (no : ¬ OkR G L) :
    Calls Try.prog 41 #[.agg #[vg, vl], .int .i64 q] w fun e w' => e = .returned (.tuple #[.agg #[.slice none 0 0, .slice none 0 0], .int .i64 1]) ∧ Below w.heap.size w w' := by
  obtain ⟨ga, gn, gc, la, ln, lc, rfl, rfl⟩ := h.form
  have HR := Lib.hid h
  clear h
  go_enter Try.func41, Try.ntmps41
  obtain ⟨wb, hwb⟩ : ∃ wb, wb = (w.alloc (.cells #[.slice ga gn gc, .slice la ln lc] 46)).alloc (.cells #[.slice none 0 0, .slice none 0 0] 46) := ⟨_, rfl⟩
  have B0 := Lib.hid (show Below w.heap.size w wb by rw [hwb]; exact Buf.then_ (new_block _) (new_block _))
  have PX := Lib.hid (show wb.heap[w.heap.size]? = some (.cells #[.slice ga gn gc, .slice la ln lc] 46 (0, 0)) by rw [hwb]; exact hop (new_block _) (heap_alloc_new w _))
  have PY := Lib.hid (show wb.heap[w.heap.size + 1]? = some (.cells #[.slice none 0 0, .slice none 0 0] 46 (0, 0)) by
    have e : (w.alloc (.cells #[.slice ga gn gc, .slice la ln lc] 46)).heap.size = w.heap.size + 1 := by simp
    rw [hwb, ← e]; exact heap_alloc_new _ _)
  obtain ⟨k0, k1⟩ := Spn.c2 PX.out
  have V := Lib.hid (valid_no (HR.out.keep B0.out) no)
  go_upto_region 1 with fail
  rw [← hwb]
  clear hwb
  go_wp2_with fail
  refine V.out.mono ?_
  rintro e w1 ⟨rfl, hb⟩
  clear k0 k1 V
  have B1 := Lib.hid (Buf.then_ B0.out hb)
  obtain ⟨k0, k1⟩ := Spn.c2 (hop hb PX.out)
  obtain ⟨k2, k3⟩ := Spn.c2 (hop hb PY.out)
  have f0 := frozen_of_row w1 (w.heap.size + 1) 0 _ _ (hop hb PY.out)
  have f1 := frozen_of_row w1 (w.heap.size + 1) 1 _ _ (hop hb PY.out)
  clear hb PX HR no PY
  go_wp2_with fail
  refine bodyPost_ret (v := .tuple #[.agg #[.slice none 0 0, .slice none 0 0], .int .i64 1]) (by simp [results, Try.results41, go_sem, k2, k3]) rfl ⟨rfl, ?_⟩
  first | exact B1.out | exact Buf.below_drewN B1.out _ | exact (B1.out.setCell (p := ⟨w.heap.size + 1, 0, none⟩) (Nat.le_succ _) _).setCell (p := ⟨w.heap.size + 1, 1, none⟩) (Nat.le_succ _) _ | exact ((Buf.below_drewN B1.out _).setCell (p := ⟨w.heap.size + 1, 0, none⟩) (Nat.le_succ _) _).setCell (p := ⟨w.heap.size + 1, 1, none⟩) (Nat.le_succ _) _
set_option maxHeartbeats 4000000 in
set_option maxRecDepth 100000 in
theorem missing_inv {w : World} {vg vl : Value} {G L : LP} (h : Rq w vg vl G L) (q : Int) (no : ¬ OkR G L) :
    Calls Try.prog 44 #[.agg #[vg, vl], .int .i64 q] w fun e w' => e = .returned (.tuple #[.slice none 0 0, .int .i64 1]) ∧ Below w.heap.size w w' := by
  obtain ⟨ga, gn, gc, la, ln, lc, rfl, rfl⟩ := h.form
  have HR := Lib.hid h
  clear h
  go_enter Try.func44, Try.ntmps44
  obtain ⟨wb, hwb⟩ : ∃ wb, wb = w.alloc (.cells #[.slice ga gn gc, .slice la ln lc] 46) := ⟨_, rfl⟩
  have B0 := Lib.hid (show Below w.heap.size w wb by rw [hwb]; exact new_block _)
  have PX := Lib.hid (show wb.heap[w.heap.size]? = some (.cells #[.slice ga gn gc, .slice la ln lc] 46 (0, 0)) by rw [hwb]; exact heap_alloc_new w _)
  obtain ⟨k0, k1⟩ := Spn.c2 PX.out
  have V := Lib.hid (valid_no (HR.out.keep B0.out) no)
  go_upto_region 1 with fail
  rw [← hwb]
  clear hwb
  go_wp2_with fail
  refine V.out.mono ?_
  rintro e w1 ⟨rfl, hb⟩
  clear k0 k1 V
  have B1 := Lib.hid (Buf.then_ B0.out hb)
  obtain ⟨k0, k1⟩ := Spn.c2 (hop hb PX.out)
  clear hb PX HR no
  go_wp2_with fail
  go_ret2
  exact ⟨rfl, by first | exact B1.out | exact Buf.below_drewN B1.out _⟩
set_option maxHeartbeats 4000000 in
set_option maxRecDepth 100000 in
theorem accept_rng {w : World} {vg vl : Value} {G L : LP} (h : Rq w vg vl G L) (q : Int) (no : OkR G L) (rng : q < 0 ∨ 1073741824 < q) :
    Calls Try.prog 39 #[.agg #[vg, vl], .int .i64 q] w fun e w' => e = .returned (.tuple #[.agg #[.slice none 0 0, .slice none 0 0], .bool false, .int .i64 2]) ∧ Below w.heap.size w w' := by
  obtain ⟨ga, gn, gc, la, ln, lc, rfl, rfl⟩ := h.form
  have HR := Lib.hid h
  clear h
  go_enter Try.func39, Try.ntmps39
  obtain ⟨wb, hwb⟩ : ∃ wb, wb = (w.alloc (.cells #[.slice ga gn gc, .slice la ln lc] 46)).alloc (.cells #[.slice none 0 0, .slice none 0 0] 46) := ⟨_, rfl⟩
  have B0 := Lib.hid (show Below w.heap.size w wb by rw [hwb]; exact Buf.then_ (new_block _) (new_block _))
  have PX := Lib.hid (show wb.heap[w.heap.size]? = some (.cells #[.slice ga gn gc, .slice la ln lc] 46 (0, 0)) by rw [hwb]; exact hop (new_block _) (heap_alloc_new w _))
  have PY := Lib.hid (show wb.heap[w.heap.size + 1]? = some (.cells #[.slice none 0 0, .slice none 0 0] 46 (0, 0)) by
    have e : (w.alloc (.cells #[.slice ga gn gc, .slice la ln lc] 46)).heap.size = w.heap.size + 1 := by simp
    rw [hwb, ← e]; exact heap_alloc_new _ _)
  obtain ⟨k0, k1⟩ := Spn.c2 PX.out
  have V := Lib.hid (valid_any ((HR.out.keep B0.out).rc no))
  go_upto_region 1 with fail
  rw [← hwb]
  clear hwb
  go_wp2_with fail
  refine V.out.mono ?_
  rintro e w1 ⟨rfl, hb⟩
  clear k0 k1 V
  have B1 := Lib.hid (Buf.then_ B0.out hb)
  obtain ⟨k0, k1⟩ := Spn.c2 (hop hb PX.out)
  obtain ⟨k2, k3⟩ := Spn.c2 (hop hb PY.out)
  have f0 := frozen_of_row w1 (w.heap.size + 1) 0 _ _ (hop hb PY.out)
  have f1 := frozen_of_row w1 (w.heap.size + 1) 1 _ _ (hop hb PY.out)
  clear hb PX HR no PY
  go_wp2_with (go_at_call 64; refine (within_no _ _ _ _ (by omega)).mono ?_; rintro e w2 ⟨rfl, m, rfl⟩)
  refine bodyPost_ret (v := .tuple #[.agg #[.slice none 0 0, .slice none 0 0], .bool false, .int .i64 2]) (by simp [results, Try.results39, go_sem, k2, k3]) rfl ⟨rfl, ?_⟩
  first | exact B1.out | exact Buf.below_drewN B1.out _ | exact (B1.out.setCell (p := ⟨w.heap.size + 1, 0, none⟩) (Nat.le_succ _) _).setCell (p := ⟨w.heap.size + 1, 1, none⟩) (Nat.le_succ _) _ | exact ((Buf.below_drewN B1.out _).setCell (p := ⟨w.heap.size + 1, 0, none⟩) (Nat.le_succ _) _).setCell (p := ⟨w.heap.size + 1, 1, none⟩) (Nat.le_succ _) _
set_option maxHeartbeats 4000000 in
set_option maxRecDepth 100000 in
theorem lose_rng {w : World} {vg vl : Value} {G L : LP} (h : Rq w vg vl G L) (q : Int) (no : OkR G L) (rng : q < 0 ∨ 1073741825 < q) :
    Calls Try.prog 41 #[.agg #[vg, vl], .int .i64 q] w fun e w' => e = .returned (.tuple #[.agg #[.slice none 0 0, .slice none 0 0], .int .i64 2]) ∧ Below w.heap.size w w' := by
  obtain ⟨ga, gn, gc, la, ln, lc, rfl, rfl⟩ := h.form
  have HR := Lib.hid h
  clear h
  go_enter Try.func41, Try.ntmps41
  obtain ⟨wb, hwb⟩ : ∃ wb, wb = (w.alloc (.cells #[.slice ga gn gc, .slice la ln lc] 46)).alloc (.cells #[.slice none 0 0, .slice none 0 0] 46) := ⟨_, rfl⟩
  have B0 := Lib.hid (show Below w.heap.size w wb by rw [hwb]; exact Buf.then_ (new_block _) (new_block _))
  have PX := Lib.hid (show wb.heap[w.heap.size]? = some (.cells #[.slice ga gn gc, .slice la ln lc] 46 (0, 0)) by rw [hwb]; exact hop (new_block _) (heap_alloc_new w _))
  have PY := Lib.hid (show wb.heap[w.heap.size + 1]? = some (.cells #[.slice none 0 0, .slice none 0 0] 46 (0, 0)) by
    have e : (w.alloc (.cells #[.slice ga gn gc, .slice la ln lc] 46)).heap.size = w.heap.size + 1 := by simp
    rw [hwb, ← e]; exact heap_alloc_new _ _)
  obtain ⟨k0, k1⟩ := Spn.c2 PX.out
  have V := Lib.hid (valid_any ((HR.out.keep B0.out).rc no))
  go_upto_region 1 with fail
  rw [← hwb]
  clear hwb
  go_wp2_with fail
  refine V.out.mono ?_
  rintro e w1 ⟨rfl, hb⟩
  clear k0 k1 V
  have B1 := Lib.hid (Buf.then_ B0.out hb)
  obtain ⟨k0, k1⟩ := Spn.c2 (hop hb PX.out)
  obtain ⟨k2, k3⟩ := Spn.c2 (hop hb PY.out)
  have f0 := frozen_of_row w1 (w.heap.size + 1) 0 _ _ (hop hb PY.out)
  have f1 := frozen_of_row w1 (w.heap.size + 1) 1 _ _ (hop hb PY.out)
  clear hb PX HR no PY
  go_wp2_with (go_at_call 64; refine (within_no _ _ _ _ (by omega)).mono ?_; rintro e w2 ⟨rfl, m, rfl⟩)
  refine bodyPost_ret (v := .tuple #[.agg #[.slice none 0 0, .slice none 0 0], .int .i64 2]) (by simp [results, Try.results41, go_sem, k2, k3]) rfl ⟨rfl, ?_⟩
  first | exact B1.out | exact Buf.below_drewN B1.out _ | exact (B1.out.setCell (p := ⟨w.heap.size + 1, 0, none⟩) (Nat.le_succ _) _).setCell (p := ⟨w.heap.size + 1, 1, none⟩) (Nat.le_succ _) _ | exact ((Buf.below_drewN B1.out _).setCell (p := ⟨w.heap.size + 1, 0, none⟩) (Nat.le_succ _) _).setCell (p := ⟨w.heap.size + 1, 1, none⟩) (Nat.le_succ _) _
set_option maxHeartbeats 4000000 in
set_option maxRecDepth 100000 in
theorem missing_rng {w : World} {vg vl : Value} {G L : LP} (h : Rq w vg vl G L) (q : Int) (no : OkR G L) (rng : q < 0 ∨ 1073741825 < q) :
    Calls Try.prog 44 #[.agg #[vg, vl], .int .i64 q] w fun e w' => e = .returned (.tuple #[.slice none 0 0, .int .i64 2]) ∧ Below w.heap.size w w' := by
  obtain ⟨ga, gn, gc, la, ln, lc, rfl, rfl⟩ := h.form
  have HR := Lib.hid h
  clear h
  go_enter Try.func44, Try.ntmps44
  obtain ⟨wb, hwb⟩ : ∃ wb, wb = w.alloc (.cells #[.slice ga gn gc, .slice la ln lc] 46) := ⟨_, rfl⟩
  have B0 := Lib.hid (show Below w.heap.size w wb by rw [hwb]; exact new_block _)
  have PX := Lib.hid (show wb.heap[w.heap.size]? = some (.cells #[.slice ga gn gc, .slice la ln lc] 46 (0, 0)) by rw [hwb]; exact heap_alloc_new w _)
  obtain ⟨k0, k1⟩ := Spn.c2 PX.out
  have V := Lib.hid (valid_any ((HR.out.keep B0.out).rc no))
  go_upto_region 1 with fail
  rw [← hwb]
  clear hwb
  go_wp2_with fail
  refine V.out.mono ?_
  rintro e w1 ⟨rfl, hb⟩
  clear k0 k1 V
  have B1 := Lib.hid (Buf.then_ B0.out hb)
  obtain ⟨k0, k1⟩ := Spn.c2 (hop hb PX.out)
  clear hb PX HR no
  go_wp2_with (go_at_call 64; refine (within_no _ _ _ _ (by omega)).mono ?_; rintro e w2 ⟨rfl, m, rfl⟩)
  go_ret2
  exact ⟨rfl, by first | exact B1.out | exact Buf.below_drewN B1.out _⟩
set_option maxHeartbeats 4000000 in
set_option maxRecDepth 100000 in
theorem high_no {w : World} {vg vl : Value} {G L : LP} (h : Rq w vg vl G L) (no : ¬ OkR G L) :
    Calls Try.prog 50 #[.agg #[vg, vl]] w fun e w' => e = .returned (.int .i64 0) ∧ Below w.heap.size w w' := by
  obtain ⟨ga, gn, gc, la, ln, lc, rfl, rfl⟩ := h.form
  have HR := Lib.hid h
  clear h
  go_enter Try.func50, Try.ntmps50
  obtain ⟨wb, hwb⟩ : ∃ wb, wb = w.alloc (.cells #[.slice ga gn gc, .slice la ln lc] 46) := ⟨_, rfl⟩
  have B0 := Lib.hid (show Below w.heap.size w wb by rw [hwb]; exact new_block _)
  have PX := Lib.hid (show wb.heap[w.heap.size]? = some (.cells #[.slice ga gn gc, .slice la ln lc] 46 (0, 0)) by rw [hwb]; exact heap_alloc_new w _)
  obtain ⟨k0, k1⟩ := Spn.c2 PX.out
  have V := Lib.hid (valid_no (HR.out.keep B0.out) no)
  go_upto_region 1 with fail
  rw [← hwb]
  clear hwb
  go_wp2_with fail
  refine V.out.mono ?_
  rintro e w1 ⟨rfl, hb⟩
  clear k0 k1 V
  have B1 := Lib.hid (Buf.then_ B0.out hb)
  obtain ⟨k0, k1⟩ := Spn.c2 (hop hb PX.out)
  clear hb PX HR no
  go_wp2_with fail
  go_ret
  exact ⟨rfl, by first | exact B1.out | exact Buf.below_drewN B1.out _⟩
set_option maxHeartbeats 4000000 in
set_option maxRecDepth 100000 in
theorem settled_no {w : World} {vg vl : Value} {G L : LP} (h : Rq w vg vl G L) (no : ¬ OkR G L) :
    Calls Try.prog 52 #[.agg #[vg, vl]] w fun e w' => e = .returned (.int .i64 0) ∧ Below w.heap.size w w' := by
  obtain ⟨ga, gn, gc, la, ln, lc, rfl, rfl⟩ := h.form
  have HR := Lib.hid h
  clear h
  go_enter Try.func52, Try.ntmps52
  obtain ⟨wb, hwb⟩ : ∃ wb, wb = w.alloc (.cells #[.slice ga gn gc, .slice la ln lc] 46) := ⟨_, rfl⟩
  have B0 := Lib.hid (show Below w.heap.size w wb by rw [hwb]; exact new_block _)
  have PX := Lib.hid (show wb.heap[w.heap.size]? = some (.cells #[.slice ga gn gc, .slice la ln lc] 46 (0, 0)) by rw [hwb]; exact heap_alloc_new w _)
  obtain ⟨k0, k1⟩ := Spn.c2 PX.out
  have V := Lib.hid (valid_no (HR.out.keep B0.out) no)
  go_upto_region 1 with fail
  rw [← hwb]
  clear hwb
  go_wp2_with fail
  refine V.out.mono ?_
  rintro e w1 ⟨rfl, hb⟩
  clear k0 k1 V
  have B1 := Lib.hid (Buf.then_ B0.out hb)
  obtain ⟨k0, k1⟩ := Spn.c2 (hop hb PX.out)
  clear hb PX HR no
  go_wp2_with fail
  go_ret
  exact ⟨rfl, by first | exact B1.out | exact Buf.below_drewN B1.out _⟩
end Rx
end Go.Proofs.Ytfmhfhggogjbkaa

/- receiver.High for any lists. -/
set_option linter.unusedVariables false
set_option linter.unusedSimpArgs false
namespace Go.Proofs.Ytfmhfhggogjbkaa
open Go.RowKit Dice Wi
namespace Rx
open Spn
open Sp (cells2 cells2_snoc cells2_get Spans own_kept own_below own_mono own_shape)
def HighP (f g : Int → Bool) (t : Int) : Prop := 0 ≤ t ∧ t ≤ 1073741825 ∧ (∀ x, f x = true → x < t) ∧ (∀ x, g x = true → x < t) ∧ (t = 0 ∨ f (t - 1) = true ∨ g (t - 1) = true)
theorem high_max {f g : Int → Bool} {a b : Int} (h1 : EndP f a) (h2 : EndP g b) : HighP f g (max a b) := by
  obtain ⟨a1, a2, a3, a4⟩ := h1
  obtain ⟨b1, b2, b3, b4⟩ := h2
  refine ⟨by omega, by omega, fun x hx => by have := a3 x hx; omega, fun x hx => by have := b3 x hx; omega, ?_⟩
  rcases (show max a b = a ∨ max a b = b by omega) with e | e
  · rw [e]; rcases a4 with h | h
    · exact .inl h
    · exact .inr (.inl h)
  · rw [e]; rcases b4 with h | h
    · exact .inl h
    · exact .inr (.inr h)
theorem HighP.unique {f g : Int → Bool} {t s : Int} (h : HighP f g t) (k : HighP f g s) : t = s := by
  obtain ⟨a1, _, a3, a4, a5⟩ := h
  obtain ⟨b1, _, b3, b4, b5⟩ := k
  rcases Int.lt_trichotomy t s with hl | h | hl
  · rcases b5 with h | h | h
    · omega
    · have := a3 _ h; omega
    · have := a4 _ h; omega
  · exact h
  · rcases a5 with h | h | h
    · omega
    · have := b3 _ h; omega
    · have := b4 _ h; omega
theorem HighP.top {f g : Int → Bool} {q t : Int} (h : HighP f g t) (q0 : 0 ≤ q) (q9 : q ≤ 1073741825) : TopP f g q (max q t) := by
  obtain ⟨a1, a2, a3, a4, a5⟩ := h
  refine ⟨by omega, by omega, by omega, fun x hx => by have := a3 x hx; omega, fun x hx => by have := a4 x hx; omega, ?_⟩
  rcases (show max q t = q ∨ max q t = t by omega) with e | e
  · exact .inl e
  · rw [e]
    rcases a5 with h | h | h
    · exact .inr (.inl h)
    · exact .inr (.inr (.inl h))
    · exact .inr (.inr (.inr h))
theorem SetP.unique {f g : Int → Bool} {t s : Int} (h : SetP f g t) (k : SetP f g s) : t = s := by
  obtain ⟨a1, _, a3, a4⟩ := h
  obtain ⟨b1, _, b3, b4⟩ := k
  rcases Int.lt_trichotomy t s with hl | h | hl
  · have := b3 t a1 hl; rw [a4] at this; cases this
  · exact h
  · have := a3 s b1 hl; rw [b4] at this; cases this
theorem top_unique {f g : Int → Bool} {q t s : Int} (h : TopP f g q t) (k : TopP f g q s) : t = s := by
  obtain ⟨a1, a2, _, a3, a4, a5⟩ := h
  obtain ⟨b1, b2, _, b3, b4, b5⟩ := k
  rcases Int.lt_trichotomy t s with hl | h | hl
  · rcases b5 with h | h | h | h
    · omega
    · omega
    · have := a3 _ h; omega
    · have := a4 _ h; omega
  · exact h
  · rcases a5 with h | h | h | h
    · omega
    · omega
    · have := b3 _ h; omega
    · have := b4 _ h; omega
set_option maxHeartbeats 8000000 in
set_option maxRecDepth 100000 in
theorem high_any {w : World} {vg vl : Value} {f g : Int → Bool} (h : Rc w vg vl f g) :
    Calls Try.prog 50 #[.agg #[vg, vl]] w fun e w' => (∃ t : Int, e = .returned (.int .i64 t) ∧ HighP f g t) ∧ Below w.heap.size w w' := by
  obtain ⟨ga, gn, gc, la, ln, lc, rfl, rfl⟩ := Rc.form h
  have HR := Lib.hid h
  clear h
  go_enter Try.func50, Try.ntmps50
  obtain ⟨wb, hwb⟩ : ∃ wb, wb = w.alloc (.cells #[.slice ga gn gc, .slice la ln lc] 46) := ⟨_, rfl⟩
  have B0 := Lib.hid (show Below w.heap.size w wb by rw [hwb]; exact new_block _)
  have PX := Lib.hid (show wb.heap[w.heap.size]? = some (.cells #[.slice ga gn gc, .slice la ln lc] 46 (0, 0)) by rw [hwb]; exact heap_alloc_new w _)
  obtain ⟨k0, k1⟩ := Spn.c2 PX.out
  have V := Lib.hid (valid_any (HR.out.keep B0.out))
  go_upto_region 1 with fail
  rw [← hwb]
  clear hwb
  go_wp2_with fail
  refine V.out.mono ?_
  rintro e w2 ⟨rfl, hb⟩
  replace B0 := Lib.hid (Buf.then_ B0.out hb)
  have PB := Lib.hid fun wx (hb' : Below w2.heap.size w2 wx) => Spn.c2 (hop (Buf.then_ hb hb') PX.out)
  have RG := Lib.hid fun wx (hb' : Below w2.heap.size w2 wx) => (HR.out.keep (Buf.then_ B0.out hb')).got
  have RL := Lib.hid fun wx (hb' : Below w2.heap.size w2 wx) => (HR.out.keep (Buf.then_ B0.out hb')).lost
  clear hb k0 k1 V PX HR
  go_upto_region 3 with fail
  have hw0 : Below w2.heap.size w2 w2.drew := (Below.refl _ _).drew
  refine wp_region_noPanic ?_
  refine wp_region_any (by kernel_rfl) ?_
  refine Inv.wpAny_inv (fun k => false) [6, 7, 8, 9, 10, 11, 12, 2] (fun w' => Below w2.heap.size w2 w') (fun _ w1 w2 => Below w1.heap.size w1 w2) (fun k => ([fun v_ w_ => v_ = .pointer (some ⟨w.heap.size, 0, none⟩), fun v_ w_ => v_ = .slice ga gn gc, fun v_ w_ => ∃ ta : Int, v_ = .int .i64 ta ∧ EndP f ta, fun v_ w_ => v_ = .pointer (some ⟨w.heap.size, 1, none⟩), fun v_ w_ => v_ = .slice la ln lc, fun v_ w_ => ∃ tb : Int, v_ = .int .i64 tb ∧ EndP g tb, fun v_ w_ => ∃ t : Int, v_ = .int .i64 t ∧ HighP f g t, fun v_ w_ => ∃ t : Int, v_ = .int .i64 t ∧ HighP f g t] : List (Value → World → Prop)).getD k (fun _ _ => True)) _ (fun σ => by simp only [Inv.putAll, List.foldl_cons, List.foldl_nil, Act.put, List.setIfInBounds_toArray, List.set_cons_zero, List.set_cons_succ]; rfl) (by kernel_rfl) (by kernel_rfl) ?_ hw0 ?_ ?_ 0 #[true, true, true, true, true, true, true, true] (by kernel_rfl) (by kernel_rfl) ?_
  · intro j k v w1 w2 hjk hv hr
    rcases k with _ | k
    · exact hv
    rcases k with _ | k
    · exact hv
    rcases k with _ | k
    · exact hv
    rcases k with _ | k
    · exact hv
    rcases k with _ | k
    · exact hv
    rcases k with _ | k
    · exact hv
    rcases k with _ | k
    · exact hv
    rcases k with _ | k
    · exact hv
    · exact hv
  · intro k t hl hd
    rcases k with _ | k
    · exact absurd hl (by decide +kernel)
    rcases k with _ | k
    · exact absurd hl (by decide +kernel)
    rcases k with _ | k
    · exact absurd hl (by decide +kernel)
    rcases k with _ | k
    · exact absurd hl (by decide +kernel)
    rcases k with _ | k
    · exact absurd hl (by decide +kernel)
    rcases k with _ | k
    · exact absurd hl (by decide +kernel)
    rcases k with _ | k
    · exact absurd hl (by decide +kernel)
    rcases k with _ | k
    · exact absurd hl (by decide +kernel)
    · simp at hd
  · show Inv.Steps _ _ _ _ _ _ _ _ [0, 1, 2, 3, 4, 5, 6, 7]
    refine Inv.Steps.go (by decide) (by rfl) (fun σ wx hw hd K hK => ?_) ?_
    · simp only [List.getElem_toArray, List.getElem_cons_zero, List.getElem_cons_succ, Act.put, List.setIfInBounds_toArray, List.set_cons_zero, List.set_cons_succ] at hK ⊢
      go_simp
      exact hK.out _ _ hw (Below.refl _ _) (rfl)
    refine Inv.Steps.go (by decide) (by rfl) (fun σ wx hw hd K hK => ?_) ?_
    · obtain e6 : (σ 6) = .pointer (some ⟨w.heap.size, 0, none⟩) := hd 0 (some 6) (by kernel_rfl) (by rfl)
      simp only [List.getElem_toArray, List.getElem_cons_zero, List.getElem_cons_succ, Act.put, List.setIfInBounds_toArray, List.set_cons_zero, List.set_cons_succ, e6] at hK ⊢
      obtain ⟨k0, k1_⟩ := PB.out _ hw
      go_simp
      exact hK.out _ _ hw (Below.refl _ _) (rfl)
    refine Inv.Steps.go (by decide) (by rfl) (fun σ wx hw hd K hK => ?_) ?_
    · obtain e7 : (σ 7) = .slice ga gn gc := hd 1 (some 7) (by kernel_rfl) (by rfl)
      simp only [List.getElem_toArray, List.getElem_cons_zero, List.getElem_cons_succ, Act.put, List.setIfInBounds_toArray, List.set_cons_zero, List.set_cons_succ, e7] at hK ⊢
      go_simp
      go_at_call 67
      refine (end_any (by omega) (RG.out _ hw)).mono ?_
      rintro e w1 ⟨⟨t, rfl, hE⟩, rfl⟩
      dsimp only
      exact hK.out _ _ hw (Below.refl _ _) (⟨t, rfl, hE⟩)
    refine Inv.Steps.go (by decide) (by rfl) (fun σ wx hw hd K hK => ?_) ?_
    · simp only [List.getElem_toArray, List.getElem_cons_zero, List.getElem_cons_succ, Act.put, List.setIfInBounds_toArray, List.set_cons_zero, List.set_cons_succ] at hK ⊢
      go_simp
      exact hK.out _ _ hw (Below.refl _ _) (rfl)
    refine Inv.Steps.go (by decide) (by rfl) (fun σ wx hw hd K hK => ?_) ?_
    · obtain e9 : (σ 9) = .pointer (some ⟨w.heap.size, 1, none⟩) := hd 3 (some 9) (by kernel_rfl) (by rfl)
      simp only [List.getElem_toArray, List.getElem_cons_zero, List.getElem_cons_succ, Act.put, List.setIfInBounds_toArray, List.set_cons_zero, List.set_cons_succ, e9] at hK ⊢
      obtain ⟨k0, k1_⟩ := PB.out _ hw
      go_simp
      exact hK.out _ _ hw (Below.refl _ _) (rfl)
    refine Inv.Steps.go (by decide) (by rfl) (fun σ wx hw hd K hK => ?_) ?_
    · obtain e10 : (σ 10) = .slice la ln lc := hd 4 (some 10) (by kernel_rfl) (by rfl)
      simp only [List.getElem_toArray, List.getElem_cons_zero, List.getElem_cons_succ, Act.put, List.setIfInBounds_toArray, List.set_cons_zero, List.set_cons_succ, e10] at hK ⊢
      go_simp
      go_at_call 67
      refine (end_any (by omega) (RL.out _ hw)).mono ?_
      rintro e w1 ⟨⟨t, rfl, hE⟩, rfl⟩
      dsimp only
      exact hK.out _ _ hw (Below.refl _ _) (⟨t, rfl, hE⟩)
    refine Inv.Steps.go (by decide) (by rfl) (fun σ wx hw hd K hK => ?_) ?_
    · obtain ⟨ta, e8, ea⟩ : ∃ ta : Int, (σ 8) = .int .i64 ta ∧ EndP f ta := hd 2 (some 8) (by kernel_rfl) (by rfl)
      obtain ⟨tb, e11, eb⟩ : ∃ tb : Int, (σ 11) = .int .i64 tb ∧ EndP g tb := hd 5 (some 11) (by kernel_rfl) (by rfl)
      simp only [List.getElem_toArray, List.getElem_cons_zero, List.getElem_cons_succ, Act.put, List.setIfInBounds_toArray, List.set_cons_zero, List.set_cons_succ, e8, e11] at hK ⊢
      go_simp
      exact hK.out _ _ hw (Below.refl _ _) (⟨_, rfl, high_max ea eb⟩)
    refine Inv.Steps.go (by decide) (by rfl) (fun σ wx hw hd K hK => ?_) ?_
    · obtain ⟨t, e12, eh⟩ : ∃ t : Int, (σ 12) = .int .i64 t ∧ HighP f g t := hd 6 (some 12) (by kernel_rfl) (by rfl)
      simp only [List.getElem_toArray, List.getElem_cons_zero, List.getElem_cons_succ, Act.put, List.setIfInBounds_toArray, List.set_cons_zero, List.set_cons_succ, e12] at hK ⊢
      go_simp
      exact hK.out _ _ hw (Below.refl _ _) (⟨t, rfl, eh⟩)
    exact Inv.Steps.nil
  · intro σ wx hw hd
    obtain ⟨t, e2, eh⟩ : ∃ t : Int, (σ 2) = .int .i64 t ∧ HighP f g t := hd 7 (some 2) (by rfl) (by rfl)
    refine Inv.done (by kernel_rfl) (NoPanic.normal ?_)
    simp only [e2]
    go_wp2_with fail
    go_ret
    exact ⟨⟨t, rfl, eh⟩, Buf.then_ B0.out hw⟩
end Rx
end Go.Proofs.Ytfmhfhggogjbkaa
