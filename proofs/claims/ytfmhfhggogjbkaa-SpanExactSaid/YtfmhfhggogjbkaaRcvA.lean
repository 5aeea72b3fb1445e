/- Receivers: sets within 0 to 63; end, validSet, Valid, limited, New. -/
import Derived.Test.YtfmhfhggogjbkaaSpnI
import Derived.Test.YtfmhfhggogjbkaaMidN
import Derived.Deep.DeepCutAuto
set_option linter.unusedVariables false
set_option linter.unusedSimpArgs false
namespace Go.Proofs.Ytfmhfhggogjbkaa
open Go.RowKit Dice
namespace Rcv
open Spn
theorem canon_far {N : LP} (h : Canon N) (hI : Inside N 0 64) : ∀ (i : Nat) (p : Int × Int), N[i]? = some p → 2 * (i : Int) ≤ p.1
  | 0, p, hp => by have := hI p (List.mem_of_getElem? hp); simp; omega
  | i + 1, p, hp => by
    obtain ⟨q, hq⟩ : ∃ q, N[i]? = some q := ⟨N[i]'(by have := (List.getElem?_eq_some_iff.1 hp).1; omega), List.getElem?_eq_getElem _⟩
    have a := canon_far h hI i q hq
    have b := h.at hq
    have c := h.get (show i < i + 1 by omega) hq hp
    push_cast; omega
theorem canon_short {N : LP} (h : Canon N) (hI : Inside N 0 64) : N.length ≤ 32 := by
  refine Nat.not_lt.1 fun hc => ?_
  have a := canon_far h hI 32 (N[32]'(by omega)) (List.getElem?_eq_getElem _)
  have b := hI (N[32]'(by omega)) (List.getElem_mem _)
  have c := h.one (N[32]'(by omega)) (List.getElem_mem _)
  omega
theorem Sv.short {w : World} {v : Value} {f : Int → Bool} {k : Nat} (h : Sv w v f k) : Sv w v f 32 := by
  obtain ⟨N, h1, h2, h3, h4⟩ := h
  exact ⟨N, h1, h2, canon_short h2.canon h4, h4⟩
theorem Sv.ext {w : World} {v : Value} {f g : Int → Bool} {k : Nat} (h : Sv w v f k) (e : ∀ x, f x = g x) : Sv w v g k := by
  obtain ⟨N, h1, h2, h3, h4⟩ := h
  exact ⟨N, h1, h2.congr e, h3, h4⟩
theorem Sv.nil (w : World) : Sv w (.slice none 0 0) (fun _ => false) 32 := ⟨[], .inl ⟨rfl, rfl⟩, Is.nil (fun _ => rfl), by simp, fun p hp => by cases hp⟩
theorem Sv.bd {w : World} {v : Value} {f : Int → Bool} {k : Nat} (h : Sv w v f k) {x : Int} (hx : f x = true) : 0 ≤ x ∧ x < 64 := (Spn.Sv.rv h).bd hx
/-- The form of a set in memory: nothing, or spans with a first and a last one. -/
theorem Sv.parts {w : World} {v : Value} {f : Int → Bool} (h : Sv w v f 32) : ((∃ ad c, v = .slice ad 0 c) ∧ ∀ x, f x = false) ∨
    ∃ g c n f0 t0 f1 t1, v = .slice (some ⟨g, 0, none⟩) (n + 1) c ∧ n + 1 ≤ c ∧ g < w.heap.size ∧ n < 32 ∧
      w.cell? ⟨g, 0, none⟩ = some (.int .i64 f0) ∧ w.cell? ⟨g, 1, none⟩ = some (.int .i64 t0) ∧ w.cell? ⟨g, n * 2, none⟩ = some (.int .i64 f1) ∧ w.cell? ⟨g, n * 2 + 1, none⟩ = some (.int .i64 t1) ∧
      0 ≤ f0 ∧ f0 < t0 ∧ t0 ≤ 64 ∧ 0 ≤ f1 ∧ f1 < t1 ∧ t1 ≤ 64 ∧ f (t1 - 1) = true ∧ (∀ x, f x = true → x < t1) ∧ (∀ x, x < f0 → f x = false) ∧ (∀ x, f0 ≤ x → x < t0 → f x = true) ∧ f t0 = false := by
  obtain ⟨N, h1, h2, h3, h4⟩ := h
  cases N with
  | nil =>
    left
    obtain ⟨ad, c, h, _⟩ := its_form h1
    exact ⟨⟨ad, c, h⟩, fun x => by rw [← h2.has]; rfl⟩
  | cons p N =>
    right
    rcases h1 with ⟨_, e⟩ | ⟨g, c, rfl, hc, hg, hcell⟩
    · cases e
    · obtain ⟨q, hq⟩ : ∃ q, (p :: N)[N.length]? = some q := ⟨(p :: N)[N.length]'(by simp), List.getElem?_eq_getElem _⟩
      have hp0 : (p :: N)[0]? = some p := rfl
      obtain ⟨a1, a2⟩ := hcell 0 p hp0
      obtain ⟨b1, b2⟩ := hcell N.length q hq
      have ip := h4 p (by simp)
      have iq := h4 q (List.mem_of_getElem? hq)
      have op := h2.canon.at hp0
      have oq := h2.canon.at hq
      have hN : N.length < 32 := by simp at h3; omega
      refine ⟨g, c, N.length, p.1, p.2, q.1, q.2, rfl, hc, hg, hN, by simpa using a1, by simpa using a2, b1, b2, ip.1, op, ip.2, iq.1, oq, iq.2, ?_, fun x hx => ?_, fun x hx => ?_, fun x hx1 hx2 => ?_, ?_⟩
      · rw [← h2.has]; exact hasB_iff.2 ⟨q, List.mem_of_getElem? hq, by omega, by omega⟩
      · rw [← h2.has] at hx
        obtain ⟨r, hr, r1, r2⟩ := hasB_iff.1 hx
        obtain ⟨j, hj, rfl⟩ := List.mem_iff_getElem.1 hr
        have hj' : (p :: N)[j]? = some ((p :: N)[j]) := List.getElem?_eq_getElem _
        by_cases e : j = N.length
        · subst e; rw [hj'] at hq; injection hq with hq; rw [← hq]; omega
        · have := h2.canon.get (show j < N.length by simp at hj; omega) hj' hq; omega
      · rw [← Bool.not_eq_true, ← h2.has]
        intro hx'
        obtain ⟨r, hr, r1, r2⟩ := hasB_iff.1 hx'
        rcases List.mem_cons.1 hr with rfl | hr
        · omega
        · have := (canon_cons.1 h2.canon).2.1 r hr; omega
      · rw [← h2.has]; exact hasB_iff.2 ⟨p, by simp, by omega, by omega⟩
      · rw [← Bool.not_eq_true, ← h2.has]
        intro hx'
        obtain ⟨r, hr, r1, r2⟩ := hasB_iff.1 hx'
        rcases List.mem_cons.1 hr with rfl | hr
        · omega
        · have := (canon_cons.1 h2.canon).2.1 r hr; omega
/-- A store into a block of two slices leaves a set as it is. -/
theorem Its.set {w : World} {v : Value} {L : LP} (h : Its w v L) {p o : Nat} {a a' : Option Addr} {n c n' c' : Nat} {t : TypeId} (hp : w.heap[p]? = some (.cells #[.slice a n c, .slice a' n' c'] t (0, 0))) (u : Value) : Its (w.setCell ⟨p, o, none⟩ u) v L := by
  rcases h with h | ⟨g, cc, rfl, h1, h2, h3⟩
  · exact .inl h
  · refine .inr ⟨g, cc, rfl, h1, by simpa [World.setCell] using h2, fun k q hq => ?_⟩
    obtain ⟨k1, k2⟩ := h3 k q hq
    have hne : g ≠ p := by
      rintro rfl
      have c0 := (c2 hp).1
      have c1 := (c2 hp).2
      rw [cell_of_row w g (k * 2) _ _ _ hp] at k1
      rcases Nat.lt_or_ge (k * 2) 2 with h | h
      · obtain rfl : k = 0 := by omega
        simp at k1
      · simp [show 2 ≤ k * 2 from h] at k1
    have e : ∀ j, (w.setCell ⟨p, o, none⟩ u).cell? ⟨g, j, none⟩ = w.cell? ⟨g, j, none⟩ := fun j => World.cell?_setCell_far _ _ _ _ (Ne.symm hne)
    rw [e, e]
    exact ⟨k1, k2⟩
theorem Sv.set {w : World} {v : Value} {f : Int → Bool} {k : Nat} (h : Sv w v f k) {p o : Nat} {a a' : Option Addr} {n c n' c' : Nat} {t : TypeId} (hp : w.heap[p]? = some (.cells #[.slice a n c, .slice a' n' c'] t (0, 0))) (u : Value) : Sv (w.setCell ⟨p, o, none⟩ u) v f k := by
  obtain ⟨N, h1, h2⟩ := h
  exact ⟨N, Rcv.Its.set h1 hp u, h2⟩
theorem Sv.form {w : World} {v : Value} {f : Int → Bool} {k : Nat} (h : Sv w v f k) : ∃ a n c, v = .slice a n c ∧ n ≤ k := by
  obtain ⟨N, h1, h2, h3, h4⟩ := h
  obtain ⟨ad, c, h, _⟩ := its_form h1
  exact ⟨ad, _, c, h, h3⟩
/-- A receiver. -/
structure Rc (w : World) (vg vl : Value) (f g : Int → Bool) : Prop where
  got : Sv w vg f 32
  lost : Sv w vl g 32
  apart : ∀ x, (f x && g x) = false
theorem Rc.keep {w w' : World} {vg vl : Value} {f g : Int → Bool} (h : Rc w vg vl f g) (hb : Below w.heap.size w w') : Rc w' vg vl f g := ⟨h.got.keep hb, h.lost.keep hb, h.apart⟩
set_option maxHeartbeats 2000000 in
theorem end_any {w : World} {v : Value} {f : Int → Bool} (h : Sv w v f 32) :
    Calls Try.prog 67 #[v] w fun e w' => (∃ t : Int, e = .returned (.int .i64 t) ∧ 0 ≤ t ∧ t ≤ 64 ∧ (∀ x, f x = true → x < t) ∧ (t = 0 ∨ f (t - 1) = true)) ∧ w' = w := by
  rcases Sv.parts h with ⟨⟨ad, c, rfl⟩, hf⟩ | ⟨g, c, n, f0, t0, f1, t1, rfl, hc, hg, hn, c0, c1, d0, d1, b1, b2, b3, b4, b5, b6, e1, e2, e3, e4, e5⟩
  · clear h
    have HF := Lib.hid hf
    clear hf
    go_enter Try.func67, Try.ntmps67
    go_wp2_with fail
    go_ret
    exact ⟨⟨0, rfl, by omega, by omega, fun x hx => (by rw [HF.out x] at hx; cases hx), .inl rfl⟩, rfl⟩
  · have E := Lib.hid (And.intro e1 e2)
    clear h e1 e2 e3 e4 e5 c0 c1
    have en : ((n + 1 : Nat) : Int) - 1 = (n : Int) := by omega
    have eq0 : (((n + 1 : Nat) : Int) == 0) = false := by simp; omega
    have hcn : n < c := by omega
    go_enter Try.func67, Try.ntmps67
    go_wp2_with fail
    go_ret
    exact ⟨⟨t1, rfl, by omega, b6, E.out.2, .inr E.out.1⟩, rfl⟩
set_option maxHeartbeats 2000000 in
theorem validSet_any {w : World} {v : Value} {f : Int → Bool} (h : Sv w v f 32) :
    Calls Try.prog 69 #[v] w fun e w' => e = .returned (.bool true) ∧ Below w.heap.size w w' := by
  have VV := Lib.hid (valid_sv h (by omega))
  have EE := Lib.hid fun wx (hb : Below w.heap.size w wx) => end_any (h.keep hb)
  rcases Sv.parts h with ⟨⟨ad, c, rfl⟩, hf⟩ | ⟨g, c, n, f0, t0, f1, t1, rfl, hc, hg, hn, c0, c1, d0, d1, b1, b2, b3, b4, b5, b6, e1, e2, e3, e4, e5⟩
  · clear h hf EE
    go_enter Try.func69, Try.ntmps69
    go_wp2_with fail
    refine VV.out.mono ?_
    rintro e w1 ⟨rfl, hb⟩
    go_wp2_with fail
    go_ret
    exact ⟨rfl, hb⟩
  · clear h e1 e2 e3 e4 e5 c1 d0 d1
    have eq0 : ((n : Int) + 1 == 0) = false := by simp; omega
    have t9' : ∀ t : Int, t ≤ 64 → decide (t ≤ 1073741825) = true := fun t h => decide_eq_true (by omega)
    replace t9' := Lib.hid t9'
    go_enter Try.func69, Try.ntmps69
    go_wp2_with fail
    refine VV.out.mono ?_
    rintro e w1 ⟨rfl, hb⟩
    have c0' := (hb.cell (p := ⟨g, 0, none⟩) hg).trans c0
    have E1 := Lib.hid (EE.out w1 hb)
    replace hb := Lib.hid hb
    clear c0 VV EE
    have hc0 : 0 < c := by omega
    have hn0 : 0 < n + 1 := by omega
    go_wp2_with fail
    refine E1.out.mono ?_
    rintro e w2 ⟨⟨t, rfl, t0', t9, _, _⟩, hw⟩
    have t8 := t9'.out t t9
    clear t9'
    replace hw := hw.symm
    subst hw
    go_wp2_with fail
    go_ret
    exact ⟨rfl, hb.out⟩
set_option maxHeartbeats 4000000 in
theorem valid_any {w : World} {vg vl : Value} {f g : Int → Bool} (h : Rc w vg vl f g) :
    Calls Try.prog 48 #[.agg #[vg, vl]] w fun e w' => e = .returned (.bool true) ∧ Below w.heap.size w w' := by
  obtain ⟨ga, gn, gc, rfl, _⟩ := Sv.form h.got
  obtain ⟨la, ln, lc, rfl, _⟩ := Sv.form h.lost
  have B0 := Lib.hid (new_block (w := w) (.cells #[.slice ga gn gc, .slice la ln lc] 46))
  have P0 := Lib.hid fun wx (hb : Below (w.alloc (.cells #[.slice ga gn gc, .slice la ln lc] 46)).heap.size (w.alloc (.cells #[.slice ga gn gc, .slice la ln lc] 46)) wx) => c2 (hop hb (heap_alloc_new w (.cells #[.slice ga gn gc, .slice la ln lc] 46)))
  have V1 := Lib.hid fun wx (hb : Below w.heap.size w wx) => validSet_any (h.keep hb).got
  have V2 := Lib.hid fun wx (hb : Below w.heap.size w wx) => validSet_any (h.keep hb).lost
  have M := Lib.hid fun wx (hb : Below w.heap.size w wx) => meet_sv (h.keep hb).got.rv (h.keep hb).lost.rv (by omega) (by omega)
  have AP := Lib.hid h.apart
  clear h
  go_enter Try.func48, Try.ntmps48
  obtain ⟨wb, hwb⟩ : ∃ wb, wb = w.alloc (.cells #[.slice ga gn gc, .slice la ln lc] 46) := ⟨_, rfl⟩
  rw [← hwb] at B0 P0
  obtain ⟨k0, k1⟩ := P0.out wb (Below.refl _ _)
  go_wp2_with fail
  rw [← hwb]
  refine (V1.out wb B0.out).mono ?_
  rintro e w1 ⟨rfl, hb⟩
  clear k0 k1
  have BB := Lib.hid (Buf.then_ (Below.refl _ _) hb)
  obtain ⟨k0, k1⟩ := P0.out w1 BB.out
  clear hb
  go_wp2_with fail
  refine (V2.out w1 (Buf.then_ B0.out BB.out)).mono ?_
  rintro e w2 ⟨rfl, hb⟩
  clear k0 k1
  replace BB := Lib.hid (Buf.then_ BB.out hb)
  obtain ⟨k0, k1⟩ := P0.out w2 BB.out
  clear hb
  go_wp2_with fail
  refine (M.out w2 (Buf.then_ B0.out BB.out)).mono ?_
  rintro e w3 ⟨⟨r, rfl, hS⟩, hb⟩
  obtain ⟨ra, rc, rfl⟩ := Spn.Sv.none hS AP.out
  clear hS
  replace BB := Lib.hid (Buf.then_ (Buf.then_ B0.out BB.out) hb)
  clear hb
  go_wp2_with fail
  go_ret
  exact ⟨rfl, BB.out⟩
theorem new_any (w : World) :
    Calls Try.prog 54 #[] w fun e w' => e = .returned (.agg #[.slice none 0 0, .slice none 0 0]) ∧ Below w.heap.size w w' := by
  go_enter Try.func54, Try.ntmps54
  go_wp2_with fail
  refine bodyPost_ret (v := .agg #[.slice none 0 0, .slice none 0 0]) (by simp [results, Try.results54, go_sem]) rfl ⟨rfl, ?_⟩
  repeat (refine Below.setCell ?_ (Nat.le_refl _) _)
  exact new_block _
theorem rc_new (w : World) : Rc w (.slice none 0 0) (.slice none 0 0) (fun _ => false) (fun _ => false) := ⟨Sv.nil w, Sv.nil w, fun _ => rfl⟩
theorem limited_any (a a' : Option Addr) (n c n' c' : Nat) (hn : n ≤ 4096) (hn' : n' ≤ 4096) (w : World) :
    Calls Try.prog 65 #[.slice a n c, .slice a' n' c'] w fun e w' => e = .returned (.tuple #[.agg #[.slice a n c, .slice a' n' c'], .int .i64 0]) ∧ Below w.heap.size w w' := by
  have h1 : ¬ (4096 < (n : Int)) := by omega
  have h2 : ¬ (4096 < (n' : Int)) := by omega
  go_enter Try.func65, Try.ntmps65
  go_wp2_with fail
  refine bodyPost_ret (v := .tuple #[.agg #[.slice a n c, .slice a' n' c'], .int .i64 0]) (by simp [results, Try.results65, go_sem]) rfl ⟨rfl, ?_⟩
  repeat (refine Below.setCell ?_ (Nat.le_refl _) _)
  exact new_block _
end Rcv
end Go.Proofs.Ytfmhfhggogjbkaa
