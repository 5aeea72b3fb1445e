/- RxAD: texts joined. -/
import Derived.Test.YtfmhfhggogjbkaaItB
import Derived.Test.YtfmhfhggogjbkaaItC
import Derived.Test.YtfmhfhggogjbkaaItV
import Derived.Test.YtfmhfhggogjbkaaMidN
import Derived.Test.YtfmhfhggogjbkaaRcvAE
import Derived.Test.YtfmhfhggogjbkaaRfU
import Derived.Test.YtfmhfhggogjbkaaRfNP
import Derived.Deep.DeepCutAuto
import Derived.Test.YtfmhfhggogjbkaaInvB
import Derived.Test.YtfmhfhggogjbkaaWithinN
import Derived.Test.YtfmhfhggogjbkaaRes
/- Receivers whose sets are any lists: memory, end, validSet, Valid, limited. -/
set_option linter.unusedVariables false
set_option linter.unusedSimpArgs false
namespace Go.Proofs.Ytfmhfhggogjbkaa
open Go.RowKit Dice Wi
namespace Rx
open Spn
open Sp (cells2 cells2_snoc cells2_get Spans own_kept own_below own_mono own_shape)
theorem bd_ofw {L : LP} (h : Inside L 0 1073741825) {x : Int} (hx : hasB L x = true) : 0 ≤ x ∧ x < 1073741825 := by
  obtain ⟨p, hp, p1, p2⟩ := hasB_iff.1 hx
  have := h p hp
  omega
theorem in_ofw {N : LP} (h : Canon N) (hx : ∀ x, hasB N x = true → 0 ≤ x ∧ x < 1073741825) : Inside N 0 1073741825 := by
  intro p hp
  have h1 := h.one p hp
  have a := hx p.1 (hasB_iff.2 ⟨p, hp, by omega, by omega⟩)
  have b := hx (p.2 - 1) (hasB_iff.2 ⟨p, hp, by omega, by omega⟩)
  omega
/-- A list that has the numbers f. -/
def Rw (w : World) (v : Value) (f : Int → Bool) (k : Nat) : Prop := ∃ L, Itw w v L ∧ (∀ x, hasB L x = f x) ∧ L.length ≤ k ∧ Inside L 0 1073741825
/-- A set that has the numbers f. -/
def Sw (w : World) (v : Value) (f : Int → Bool) (k : Nat) : Prop := ∃ N, Itw w v N ∧ Is N f ∧ N.length ≤ k ∧ Inside N 0 1073741825
theorem Rw.keep {w w' : World} {v : Value} {f : Int → Bool} {k : Nat} (h : Rw w v f k) (hb : Below w.heap.size w w') : Rw w' v f k := by
  obtain ⟨L, h1, h2⟩ := h
  exact ⟨L, h1.keep hb, h2⟩
theorem Sw.keep {w w' : World} {v : Value} {f : Int → Bool} {k : Nat} (h : Sw w v f k) (hb : Below w.heap.size w w') : Sw w' v f k := by
  obtain ⟨L, h1, h2⟩ := h
  exact ⟨L, h1.keep hb, h2⟩
theorem Sw.rv {w : World} {v : Value} {f : Int → Bool} {k : Nat} (h : Sw w v f k) : Rw w v f k := by
  obtain ⟨N, h1, h2, h3, h4⟩ := h
  exact ⟨N, h1, h2.has, h3, h4⟩
theorem Rw.bd {w : World} {v : Value} {f : Int → Bool} {k : Nat} (h : Rw w v f k) {x : Int} (hx : f x = true) : 0 ≤ x ∧ x < 1073741825 := by
  obtain ⟨L, h1, h2, h3, h4⟩ := h
  exact bd_ofw h4 (by rw [h2]; exact hx)
/-- What a function that makes a set returns. -/
def Made (w : World) (f : Int → Bool) (k : Nat) (e : Ending) (w' : World) : Prop := (∃ r, e = .returned r ∧ Sw w' r f k) ∧ Below w.heap.size w w'
theorem madew {w w' : World} {e : Ending} {f : Int → Bool} {k : Nat} {B : Nat} (h : (∃ r N, e = .returned r ∧ Spans w' B r N ∧ Is N f ∧ N.length ≤ k) ∧ Below w.heap.size w w') (hf : ∀ x, f x = true → 0 ≤ x ∧ x < 1073741825) : Made w f k e w' := by
  obtain ⟨⟨r, N, h1, h2, h3, h4⟩, h5⟩ := h
  exact ⟨⟨r, h1, N, (its_of_own h2).wide, h3, h4, in_ofw h3.canon fun x hx => hf x (by rw [← h3.has]; exact hx)⟩, h5⟩
theorem union_sw {w : World} {va vb : Value} {f g : Int → Bool} {k j : Nat} (ha : Rw w va f k) (hb : Rw w vb g j) (hk : k ≤ 100) (hj : j ≤ 100) : Calls Try.prog 16 #[va, vb] w (Made w (fun x => f x || g x) (k + j)) := by
  have hfa := ha
  have hfb := hb
  obtain ⟨A, h1, h2, h3, h4⟩ := ha
  obtain ⟨B, b1, b2, b3, b4⟩ := hb
  refine (union_anyw h1 b1 (by omega) (by omega)).mono fun e w' h => madew (B := w.heap.size) ?_ fun x hx => ?_
  · obtain ⟨⟨r, N, a1, a2, a3, a4⟩, a5⟩ := h
    exact ⟨⟨r, N, a1, a2, a3.congr fun x => by rw [h2, b2], by omega⟩, a5⟩
  · rcases Bool.or_eq_true_iff.1 hx with hx | hx
    · exact hfa.bd hx
    · exact hfb.bd hx
theorem meet_sw {w : World} {va vb : Value} {f g : Int → Bool} {k j : Nat} (ha : Rw w va f k) (hb : Rw w vb g j) (hk : k ≤ 100) (hj : j ≤ 100) : Calls Try.prog 18 #[va, vb] w (Made w (fun x => f x && g x) (k + j)) := by
  have hfa := ha
  obtain ⟨A, h1, h2, h3, h4⟩ := ha
  obtain ⟨B, b1, b2, b3, b4⟩ := hb
  refine (meet_anyw h1 b1 (by omega) (by omega)).mono fun e w' h => madew (B := w.heap.size) ?_ fun x hx => hfa.bd (Bool.and_eq_true_iff.1 hx).1
  obtain ⟨⟨r, N, a1, a2, a3, a4⟩, a5⟩ := h
  exact ⟨⟨r, N, a1, a2, a3.congr fun x => by rw [h2, b2], by omega⟩, a5⟩
theorem minus_sw {w : World} {va vb : Value} {f g : Int → Bool} {k j : Nat} (ha : Rw w va f k) (hb : Rw w vb g j) (hk : k ≤ 100) (hj : j ≤ 100) : Calls Try.prog 20 #[va, vb] w (Made w (fun x => f x && !g x) (j + 2 * k)) := by
  have hfa := ha
  obtain ⟨A, h1, h2, h3, h4⟩ := ha
  obtain ⟨B, b1, b2, b3, b4⟩ := hb
  refine (minus_anyw h1 b1 (by omega) (by omega)).mono fun e w' h => madew (B := w.heap.size) ?_ fun x hx => hfa.bd (Bool.and_eq_true_iff.1 hx).1
  obtain ⟨⟨r, N, a1, a2, a3, a4⟩, a5⟩ := h
  exact ⟨⟨r, N, a1, a2, a3.congr fun x => by rw [h2, b2], by omega⟩, a5⟩
theorem has_sw {w : World} {v : Value} {f : Int → Bool} {k : Nat} (x : Int) (h : Rw w v f k) (hk : k ≤ 100) : Calls Try.prog 27 #[v, .int .i64 x] w fun e w' => e = .returned (.bool (f x)) ∧ Below w.heap.size w w' := by
  obtain ⟨L, h1, h2, h3, h4⟩ := h
  rw [← h2]
  exact has_anyw x h1 (by omega)
theorem refhas_sw {w : World} {v : Value} {f : Int → Bool} {k : Nat} (x : Int) (h : Rw w v f k) (hk : k ≤ 100) : Calls Try.prog 28 #[v, .int .i64 x] w fun e w' => e = .returned (.bool (f x)) ∧ Below w.heap.size w w' := by
  obtain ⟨L, h1, h2, h3, h4⟩ := h
  rw [← h2]
  exact refhas_anyw x h1 (by omega)
theorem valid_sw {w : World} {v : Value} {f : Int → Bool} {k : Nat} (h : Sw w v f k) (hk : k ≤ 100) : Calls Try.prog 24 #[v] w fun e w' => e = .returned (.bool true) ∧ Below w.heap.size w w' := by
  obtain ⟨N, h1, h2, h3, h4⟩ := h
  exact valid_anyw true (by simp [h2.canon]) h1 (by omega)
theorem Sw.empty {w : World} {v : Value} {f : Int → Bool} {k : Nat} (h : Sw w v f k) (hf : ∀ x, f x = false) : ∃ ad c, v = .slice ad 0 c := by
  obtain ⟨N, h1, h2, h3, h4⟩ := h
  obtain rfl : N = [] := h2.unique (Is.nil hf)
  obtain ⟨ad, c, h, _⟩ := itw_form h1
  exact ⟨ad, c, h⟩
theorem refunion_sw {w : World} {va vb : Value} {f g : Int → Bool} {k j : Nat} (ha : Rw w va f k) (hb : Rw w vb g j) (hk : k ≤ 100) (hj : j ≤ 100) : Calls Try.prog 17 #[va, vb] w (Made w (fun x => f x || g x) (k + j)) := by
  have hfa := ha
  have hfb := hb
  obtain ⟨A, h1, h2, h3, h4⟩ := ha
  obtain ⟨B, b1, b2, b3, b4⟩ := hb
  refine (refunion_anyw h1 b1 (by omega) (by omega)).mono fun e w' h => madew (B := w.heap.size) ?_ fun x hx => ?_
  · obtain ⟨⟨r, N, a1, a2, a3, a4⟩, a5⟩ := h
    exact ⟨⟨r, N, a1, a2, a3.congr fun x => by rw [h2, b2], by omega⟩, a5⟩
  · rcases Bool.or_eq_true_iff.1 hx with hx | hx
    · exact hfa.bd hx
    · exact hfb.bd hx
/-- How long a difference or a meet can be: what the program's own function tells. -/
theorem minus_len {w : World} {va vb : Value} {A B N : LP} (ha : Itw w va A) (hb : Itw w vb B) (h9a : A.length ≤ 100) (h9b : B.length ≤ 100) (hN : Is N (fun x => hasB A x && !hasB B x)) : N.length ≤ B.length + 2 * A.length := by
  obtain ⟨e, w', fr, ⟨⟨r, N', _, _, hI, hl⟩, _⟩, _⟩ := minus_anyw ha hb h9a h9b []
  obtain rfl := hN.unique hI
  omega
theorem meet_len {w : World} {va vb : Value} {A B N : LP} (ha : Itw w va A) (hb : Itw w vb B) (h9a : A.length ≤ 100) (h9b : B.length ≤ 100) (hN : Is N (fun x => hasB A x && hasB B x)) : N.length ≤ A.length + B.length := by
  obtain ⟨e, w', fr, ⟨⟨r, N', _, _, hI, hl⟩, _⟩, _⟩ := meet_anyw ha hb (by omega) (by omega) []
  obtain rfl := hN.unique hI
  omega
theorem refminus_sw {w : World} {va vb : Value} {f g : Int → Bool} {k j : Nat} (ha : Rw w va f k) (hb : Rw w vb g j) (hk : k ≤ 100) (hj : j ≤ 100) : Calls Try.prog 21 #[va, vb] w (Made w (fun x => f x && !g x) (j + 2 * k)) := by
  have hfa := ha
  obtain ⟨A, h1, h2, h3, h4⟩ := ha
  obtain ⟨B, b1, b2, b3, b4⟩ := hb
  refine (refminus_genw h1 b1 (by omega) (by omega)).mono fun e w' h => madew (B := w.heap.size) ?_ fun x hx => hfa.bd (Bool.and_eq_true_iff.1 hx).1
  obtain ⟨⟨r, N, a1, a2, a3, a4⟩, a5⟩ := h
  have a6 := minus_len h1 b1 (by omega) (by omega) a3
  exact ⟨⟨r, N, a1, a2, a3.congr fun x => by rw [h2, b2], by omega⟩, a5⟩
theorem refmeet_sw {w : World} {va vb : Value} {f g : Int → Bool} {k j : Nat} (ha : Rw w va f k) (hb : Rw w vb g j) (hk : k ≤ 100) (hj : j ≤ 100) : Calls Try.prog 19 #[va, vb] w (Made w (fun x => f x && g x) (k + j)) := by
  have hfa := ha
  obtain ⟨A, h1, h2, h3, h4⟩ := ha
  obtain ⟨B, b1, b2, b3, b4⟩ := hb
  refine (refmeet_genw h1 b1 (by omega) (by omega)).mono fun e w' h => madew (B := w.heap.size) ?_ fun x hx => hfa.bd (Bool.and_eq_true_iff.1 hx).1
  obtain ⟨⟨r, N, a1, a2, a3, a4⟩, a5⟩ := h
  have a6 := meet_len h1 b1 (by omega) (by omega) a3
  exact ⟨⟨r, N, a1, a2, a3.congr fun x => by rw [h2, b2], by omega⟩, a5⟩
theorem Sw.short {w : World} {v : Value} {f : Int → Bool} {k : Nat} (h : Sw w v f k) (hk : k ≤ 130) : Sw w v f 130 := by
  obtain ⟨N, h1, h2, h3, h4⟩ := h
  exact ⟨N, h1, h2, by omega, h4⟩
theorem Sw.ext {w : World} {v : Value} {f g : Int → Bool} {k : Nat} (h : Sw w v f k) (e : ∀ x, f x = g x) : Sw w v g k := by
  obtain ⟨N, h1, h2, h3, h4⟩ := h
  exact ⟨N, h1, h2.congr e, h3, h4⟩
theorem Sw.nil (w : World) : Sw w (.slice none 0 0) (fun _ => false) 40 := ⟨[], (Spn.Its.wide (.inl ⟨rfl, rfl⟩)), Is.nil (fun _ => rfl), by simp, fun p hp => by cases hp⟩
theorem Sw.parts {w : World} {v : Value} {f : Int → Bool} {kk : Nat} (h : Sw w v f kk) : ((∃ ad c, v = .slice ad 0 c) ∧ ∀ x, f x = false) ∨
    ∃ g o c n f0 t0 f1 t1, v = .slice (some ⟨g, o, none⟩) (n + 1) c ∧ n + 1 ≤ c ∧ g < w.heap.size ∧ n < kk ∧
      w.cell? ⟨g, o, none⟩ = some (.int .i64 f0) ∧ w.cell? ⟨g, o + 1, none⟩ = some (.int .i64 t0) ∧ w.cell? ⟨g, o + n * 2, none⟩ = some (.int .i64 f1) ∧ w.cell? ⟨g, o + n * 2 + 1, none⟩ = some (.int .i64 t1) ∧
      0 ≤ f0 ∧ f0 < t0 ∧ t0 ≤ 1073741825 ∧ 0 ≤ f1 ∧ f1 < t1 ∧ t1 ≤ 1073741825 ∧ f (t1 - 1) = true ∧ (∀ x, f x = true → x < t1) ∧ (∀ x, x < f0 → f x = false) ∧ (∀ x, f0 ≤ x → x < t0 → f x = true) ∧ f t0 = false := by
  obtain ⟨N, h1, h2, h3, h4⟩ := h
  cases N with
  | nil =>
    left
    obtain ⟨ad, c, h, _⟩ := itw_form h1
    exact ⟨⟨ad, c, h⟩, fun x => by rw [← h2.has]; rfl⟩
  | cons p N =>
    right
    obtain ⟨ad, c, rfl, hc, hcell⟩ := itw_form h1
    have _unit : True := trivial
    · obtain ⟨q, hq⟩ : ∃ q, (p :: N)[N.length]? = some q := ⟨(p :: N)[N.length]'(by simp), List.getElem?_eq_getElem _⟩
      have hp0 : (p :: N)[0]? = some p := rfl
      obtain ⟨g, o, rfl, hg, a1, a2⟩ := hcell 0 p hp0
      obtain ⟨g', o', eg, _, b1, b2⟩ := hcell N.length q hq
      cases eg
      have ip := h4 p (by simp)
      have iq := h4 q (List.mem_of_getElem? hq)
      have op := h2.canon.at hp0
      have oq := h2.canon.at hq
      have hN : N.length < kk := by simp at h3; omega
      refine ⟨g, o, c, N.length, p.1, p.2, q.1, q.2, rfl, hc, hg, hN, by simpa using a1, by simpa using a2, b1, b2, ip.1, op, ip.2, iq.1, oq, iq.2, ?_, fun x hx => ?_, fun x hx => ?_, fun x hx1 hx2 => ?_, ?_⟩
      · rw [← h2.has]; exact hasB_iff.2 ⟨q, List.mem_of_getElem? hq, by omega, by omega⟩
      · rw [← h2.has] at hx
        obtain ⟨r, hr, r1, r2⟩ := hasB_iff.1 hx
        obtain ⟨j, hj, rfl⟩ := List.mem_iff_getElem.1 hr
        have hj' : (p :: N)[j]? = some ((p :: N)[j]) := List.getElem?_eq_getElem _
        by_cases e : j = N.length
        · subst e; rw [hj'] at hq; injection hq with hq; rw [← hq]; omega
        · have := h2.canon.get (show j < N.length by simp at hj; omega) hj' hq; omega
      · rw [← Bool.not_eq_true, ← h2.has]
        intro hx'
        obtain ⟨r, hr, r1, r2⟩ := hasB_iff.1 hx'
        rcases List.mem_cons.1 hr with rfl | hr
        · omega
        · have := (canon_cons.1 h2.canon).2.1 r hr; omega
      · rw [← h2.has]; exact hasB_iff.2 ⟨p, by simp, by omega, by omega⟩
      · rw [← Bool.not_eq_true, ← h2.has]
        intro hx'
        obtain ⟨r, hr, r1, r2⟩ := hasB_iff.1 hx'
        rcases List.mem_cons.1 hr with rfl | hr
        · omega
        · have := (canon_cons.1 h2.canon).2.1 r hr; omega
theorem Itw.set {w : World} {v : Value} {L : LP} (h : Itw w v L) {p o : Nat} {a a' : Option Addr} {n c n' c' : Nat} {t : TypeId} (hp : w.heap[p]? = some (.cells #[.slice a n c, .slice a' n' c'] t (0, 0))) (u : Value) : Itw (w.setCell ⟨p, o, none⟩ u) v L := by
  obtain ⟨ad, cc, rfl, h1, h2⟩ := itw_form h
  refine ⟨ad, cc, rfl, h1, fun k q hq => ?_⟩
  obtain ⟨g, o', rfl, hg, k1, k2⟩ := h2 k q hq
  refine ⟨g, o', rfl, by simpa [World.setCell] using hg, ?_⟩
  have hne : g ≠ p := by
    rintro rfl
    rw [cell_of_row w g (o' + k * 2) _ _ _ hp] at k1
    rcases (show o' + k * 2 = 0 ∨ o' + k * 2 = 1 ∨ 2 ≤ o' + k * 2 by omega) with e | e | e
    · simp [e] at k1
    · simp [e] at k1
    · have : (#[Value.slice a n c, .slice a' n' c'])[o' + k * 2]? = none := Array.getElem?_eq_none (by simpa using e)
      rw [this] at k1
      cases k1
  have e : ∀ j, (w.setCell ⟨p, o, none⟩ u).cell? ⟨g, j, none⟩ = w.cell? ⟨g, j, none⟩ := fun j => World.cell?_setCell_far _ _ _ _ (Ne.symm hne)
  rw [e, e]
  exact ⟨k1, k2⟩
theorem Sw.set {w : World} {v : Value} {f : Int → Bool} {k : Nat} (h : Sw w v f k) {p o : Nat} {a a' : Option Addr} {n c n' c' : Nat} {t : TypeId} (hp : w.heap[p]? = some (.cells #[.slice a n c, .slice a' n' c'] t (0, 0))) (u : Value) : Sw (w.setCell ⟨p, o, none⟩ u) v f k := by
  obtain ⟨N, h1, h2⟩ := h
  exact ⟨N, Rx.Itw.set h1 hp u, h2⟩
theorem Sw.form {w : World} {v : Value} {f : Int → Bool} {k : Nat} (h : Sw w v f k) : ∃ a n c, v = .slice a n c ∧ n ≤ k := by
  obtain ⟨N, h1, h2, h3, h4⟩ := h
  obtain ⟨ad, c, h, _⟩ := itw_form h1
  exact ⟨ad, _, c, h, h3⟩
/-- A receiver. -/
structure Rc (w : World) (vg vl : Value) (f g : Int → Bool) : Prop where
  got : Sw w vg f 40
  lost : Sw w vl g 40
  apart : ∀ x, (f x && g x) = false
theorem Rc.keep {w w' : World} {vg vl : Value} {f g : Int → Bool} (h : Rc w vg vl f g) (hb : Below w.heap.size w w') : Rc w' vg vl f g := ⟨h.got.keep hb, h.lost.keep hb, h.apart⟩
/-- What a function gives back. -/
structure Rd (w : World) (vg vl : Value) (f g : Int → Bool) : Prop where
  got : Sw w vg f 130
  lost : Sw w vl g 130
  apart : ∀ x, (f x && g x) = false
set_option maxHeartbeats 2000000 in
theorem end_any {w : World} {v : Value} {f : Int → Bool} {kk : Nat} (hk : kk ≤ 100) (h : Sw w v f kk) :
    Calls Try.prog 67 #[v] w fun e w' => (∃ t : Int, e = .returned (.int .i64 t) ∧ 0 ≤ t ∧ t ≤ 1073741825 ∧ (∀ x, f x = true → x < t) ∧ (t = 0 ∨ f (t - 1) = true)) ∧ w' = w := by
  rcases Sw.parts h with ⟨⟨ad, c, rfl⟩, hf⟩ | ⟨g, o, c, n, f0, t0, f1, t1, rfl, hc, hg, hn, c0, c1, d0, d1, b1, b2, b3, b4, b5, b6, e1, e2, e3, e4, e5⟩
  · clear h
    have HF := Lib.hid hf
    clear hf
    go_enter Try.func67, Try.ntmps67
    go_wp2_with fail
    go_ret
    exact ⟨⟨0, rfl, by omega, by omega, fun x hx => (by rw [HF.out x] at hx; cases hx), .inl rfl⟩, rfl⟩
  · have E := Lib.hid (And.intro e1 e2)
    clear h e1 e2 e3 e4 e5 c0 c1
    have en : ((n + 1 : Nat) : Int) - 1 = (n : Int) := by omega
    have eq0 : (((n + 1 : Nat) : Int) == 0) = false := by simp; omega
    have hcn : n < c := by omega
    go_enter Try.func67, Try.ntmps67
    go_wp2_with fail
    go_ret
    exact ⟨⟨t1, rfl, by omega, b6, E.out.2, .inr E.out.1⟩, rfl⟩
set_option maxHeartbeats 2000000 in
theorem validSet_any {w : World} {v : Value} {f : Int → Bool} (h : Sw w v f 40) :
    Calls Try.prog 69 #[v] w fun e w' => e = .returned (.bool true) ∧ Below w.heap.size w w' := by
  have VV := Lib.hid (valid_sw h (by omega))
  have EE := Lib.hid fun wx (hb : Below w.heap.size w wx) => end_any (by omega) (h.keep hb)
  rcases Sw.parts h with ⟨⟨ad, c, rfl⟩, hf⟩ | ⟨g, o, c, n, f0, t0, f1, t1, rfl, hc, hg, hn, c0, c1, d0, d1, b1, b2, b3, b4, b5, b6, e1, e2, e3, e4, e5⟩
  · clear h hf EE
    go_enter Try.func69, Try.ntmps69
    go_wp2_with fail
    refine VV.out.mono ?_
    rintro e w1 ⟨rfl, hb⟩
    go_wp2_with fail
    go_ret
    exact ⟨rfl, hb⟩
  · clear h e1 e2 e3 e4 e5 c1 d0 d1
    have eq0 : ((n : Int) + 1 == 0) = false := by simp; omega
    have t9' : ∀ t : Int, t ≤ 1073741825 → decide (t ≤ 1073741825) = true := fun t h => decide_eq_true (by omega)
    replace t9' := Lib.hid t9'
    go_enter Try.func69, Try.ntmps69
    go_wp2_with fail
    refine VV.out.mono ?_
    rintro e w1 ⟨rfl, hb⟩
    have c0' := (hb.cell (p := ⟨g, o, none⟩) hg).trans c0
    have E1 := Lib.hid (EE.out w1 hb)
    replace hb := Lib.hid hb
    clear c0 VV EE
    have hc0 : 0 < c := by omega
    have hn0 : 0 < n + 1 := by omega
    go_wp2_with fail
    refine E1.out.mono ?_
    rintro e w2 ⟨⟨t, rfl, t0', t9, _, _⟩, hw⟩
    have t8 := t9'.out t t9
    clear t9'
    replace hw := hw.symm
    subst hw
    go_wp2_with fail
    go_ret
    exact ⟨rfl, hb.out⟩
set_option maxHeartbeats 4000000 in
theorem valid_any {w : World} {vg vl : Value} {f g : Int → Bool} (h : Rc w vg vl f g) :
    Calls Try.prog 48 #[.agg #[vg, vl]] w fun e w' => e = .returned (.bool true) ∧ Below w.heap.size w w' := by
  obtain ⟨ga, gn, gc, rfl, _⟩ := Sw.form h.got
  obtain ⟨la, ln, lc, rfl, _⟩ := Sw.form h.lost
  have B0 := Lib.hid (new_block (w := w) (.cells #[.slice ga gn gc, .slice la ln lc] 46))
  have P0 := Lib.hid fun wx (hb : Below (w.alloc (.cells #[.slice ga gn gc, .slice la ln lc] 46)).heap.size (w.alloc (.cells #[.slice ga gn gc, .slice la ln lc] 46)) wx) => c2 (hop hb (heap_alloc_new w (.cells #[.slice ga gn gc, .slice la ln lc] 46)))
  have V1 := Lib.hid fun wx (hb : Below w.heap.size w wx) => validSet_any (h.keep hb).got
  have V2 := Lib.hid fun wx (hb : Below w.heap.size w wx) => validSet_any (h.keep hb).lost
  have M := Lib.hid fun wx (hb : Below w.heap.size w wx) => meet_sw (h.keep hb).got.rv (h.keep hb).lost.rv (by omega) (by omega)
  have AP := Lib.hid h.apart
  clear h
  go_enter Try.func48, Try.ntmps48
  obtain ⟨wb, hwb⟩ : ∃ wb, wb = w.alloc (.cells #[.slice ga gn gc, .slice la ln lc] 46) := ⟨_, rfl⟩
  rw [← hwb] at B0 P0
  obtain ⟨k0, k1⟩ := P0.out wb (Below.refl _ _)
  go_wp2_with fail
  rw [← hwb]
  refine (V1.out wb B0.out).mono ?_
  rintro e w1 ⟨rfl, hb⟩
  clear k0 k1
  have BB := Lib.hid (Buf.then_ (Below.refl _ _) hb)
  obtain ⟨k0, k1⟩ := P0.out w1 BB.out
  clear hb
  go_wp2_with fail
  refine (V2.out w1 (Buf.then_ B0.out BB.out)).mono ?_
  rintro e w2 ⟨rfl, hb⟩
  clear k0 k1
  replace BB := Lib.hid (Buf.then_ BB.out hb)
  obtain ⟨k0, k1⟩ := P0.out w2 BB.out
  clear hb
  go_wp2_with fail
  refine (M.out w2 (Buf.then_ B0.out BB.out)).mono ?_
  rintro e w3 ⟨⟨r, rfl, hS⟩, hb⟩
  obtain ⟨ra, rc, rfl⟩ := Sw.empty hS AP.out
  clear hS
  replace BB := Lib.hid (Buf.then_ (Buf.then_ B0.out BB.out) hb)
  clear hb
  go_wp2_with fail
  go_ret
  exact ⟨rfl, BB.out⟩
theorem limited_any (a a' : Option Addr) (n c n' c' : Nat) (hn : n ≤ 4096) (hn' : n' ≤ 4096) (w : World) :
    Calls Try.prog 65 #[.slice a n c, .slice a' n' c'] w fun e w' => e = .returned (.tuple #[.agg #[.slice a n c, .slice a' n' c'], .int .i64 0]) ∧ Below w.heap.size w w' := by
  have h1 : ¬ (4096 < (n : Int)) := by omega
  have h2 : ¬ (4096 < (n' : Int)) := by omega
  go_enter Try.func65, Try.ntmps65
  go_wp2_with fail
  refine bodyPost_ret (v := .tuple #[.agg #[.slice a n c, .slice a' n' c'], .int .i64 0]) (by simp [results, Try.results65, go_sem]) rfl ⟨rfl, ?_⟩
  repeat (refine Below.setCell ?_ (Nat.le_refl _) _)
  exact new_block _
theorem Rc.form {w : World} {vg vl : Value} {f g : Int → Bool} (h : Rc w vg vl f g) : ∃ a n c a' n' c', vg = .slice a n c ∧ vl = .slice a' n' c' := by
  obtain ⟨ga, gn, gc, rfl, _⟩ := Sw.form h.got
  obtain ⟨la, ln, lc, rfl, _⟩ := Sw.form h.lost
  exact ⟨_, _, _, _, _, _, rfl, rfl⟩
end Rx
end Go.Proofs.Ytfmhfhggogjbkaa

/- receiver.Accept for any lists. -/
set_option linter.unusedVariables false
set_option linter.unusedSimpArgs false
namespace Go.Proofs.Ytfmhfhggogjbkaa
open Go.RowKit Dice Wi
namespace Rx
open Spn
open Sp (cells2 cells2_snoc cells2_get Spans own_kept own_below own_mono own_shape)
theorem Sw.len {w : World} {a : Option Addr} {n c : Nat} {f : Int → Bool} {k : Nat} (h : Sw w (.slice a n c) f k) : n ≤ k := by
  obtain ⟨a', n', c', e, h⟩ := Sw.form h
  injection e with _ e2 _
  omega
theorem rw_one {w : World} {b : Nat} {q t : Int} (h : w.heap[b]? = some (.cells #[.int .i64 q, .int .i64 t] 49 (0, 0))) (q0 : 0 ≤ q) (t9 : t ≤ 1073741825) : Rw w (.slice (some ⟨b, 0, none⟩) 1 1) (fun x => decide (q ≤ x ∧ x < t)) 1 := by
  refine ⟨[(q, t)], Spn.Its.wide (.inr ⟨b, 1, rfl, by simp, (Array.getElem?_eq_some_iff.1 h).1, fun k p hp => ?_⟩), fun x => by simp [hasB], by simp, fun p hp => ?_⟩
  · cases k with
    | zero => simp at hp; subst hp; exact c2 h
    | succ k => simp at hp
  · simp at hp; subst hp; exact ⟨q0, t9⟩
theorem rw_at {w : World} {v : Value} {q : Int} {k : Nat} (h : Rw w v (fun x => decide (q ≤ x ∧ x < q + 1)) k) : Rw w v (fun x => decide (x = q)) k := by
  obtain ⟨L, h1, h2, h3, h4⟩ := h
  exact ⟨L, h1, fun x => by rw [h2]; by_cases e : x = q <;> simp [e] <;> omega, h3, h4⟩
/-- What Accept returns. -/
def Acc (f g : Int → Bool) (q : Int) (w : World) (e : Ending) : Prop := ∃ vg vl, e = .returned (.tuple #[.agg #[vg, vl], .bool (!(f q)), .int .i64 0]) ∧ Rd w vg vl (fun x => f x || decide (x = q)) (fun x => g x && !decide (x = q))
set_option maxHeartbeats 8000000 in
set_option maxRecDepth 100000 in
theorem accept_any {w : World} {vg vl : Value} {f g : Int → Bool} (h : Rc w vg vl f g) (q : Int) (q0 : 0 ≤ q) (q9 : q ≤ 1073741824) :
    Calls Try.prog 39 #[.agg #[vg, vl], .int .i64 q] w fun e w' => Acc f g q w' e ∧ Below w.heap.size w w' := by
  obtain ⟨ga, gn, gc, rfl, _⟩ := Sw.form h.got
  obtain ⟨la, ln, lc, rfl, _⟩ := Sw.form h.lost
  have AP2 := Lib.hid (show ∀ x, ((fun x => f x || decide (x = q)) x && (fun x => g x && !decide (x = q)) x) = false from fun x => by
    have := h.apart x
    by_cases e : x = q <;> simp [e]
    simpa [e] using this)
  have HR := Lib.hid h
  clear h
  go_enter Try.func39, Try.ntmps39
  obtain ⟨bb, hbb⟩ : ∃ bb, bb = w.heap.size := ⟨_, rfl⟩
  obtain ⟨wb, hwb⟩ : ∃ wb, wb = (w.alloc (.cells #[.slice ga gn gc, .slice la ln lc] 46)).alloc (.cells #[.slice none 0 0, .slice none 0 0] 46) := ⟨_, rfl⟩
  have B0 := Lib.hid (show Below w.heap.size w wb by rw [hwb]; exact Buf.then_ (new_block _) (new_block _))
  have PX : wb.heap[bb]? = some (.cells #[.slice ga gn gc, .slice la ln lc] 46 (0, 0)) := by rw [hwb, hbb]; exact hop (new_block _) (heap_alloc_new w _)
  have PY : wb.heap[bb + 1]? = some (.cells #[.slice none 0 0, .slice none 0 0] 46 (0, 0)) := by
    have e : (w.alloc (.cells #[.slice ga gn gc, .slice la ln lc] 46)).heap.size = bb + 1 := by rw [hbb]; simp
    rw [hwb, ← e]; exact heap_alloc_new _ _
  obtain ⟨k0, k1⟩ := c2 PX
  have V := Lib.hid (valid_any (HR.out.keep B0.out))
  have PX' := Lib.hid PX
  have PY' := Lib.hid PY
  clear PX PY
  have wq : q + 1 ≤ 1073741825 := by omega
  go_wp2_with fail
  rw [← hwb, ← hbb]
  refine V.out.mono ?_
  rintro e w1 ⟨rfl, hb⟩
  clear k0 k1 V
  replace PX' := Lib.hid (hop hb PX'.out)
  replace PY' := Lib.hid (hop hb PY'.out)
  replace B0 := Lib.hid (Buf.then_ B0.out hb)
  clear hb
  replace hwb := Lib.hid hwb
  replace hbb := Lib.hid hbb
  go_wp2_with (go_at_call 64; refine (within_yes _ _ _ _ (by omega) (by omega)).mono ?_; rintro e w' ⟨rfl, mq, rfl⟩)
  obtain ⟨wS, hwS⟩ : ∃ wS, wS = (w1.drewN mq).alloc (.cells #[.int .i64 q, .int .i64 (q + 1)] 49) := ⟨_, rfl⟩
  obtain ⟨bo, hbo⟩ : ∃ bo, bo = w1.heap.size := ⟨_, rfl⟩
  obtain ⟨br, hbr'⟩ : ∃ br, br = bb + 1 := ⟨_, rfl⟩
  have BX : Below w1.heap.size w1 wS := by rw [hwS]; exact (Buf.below_drewN (Below.refl _ _) mq).alloc (Nat.le_refl _) _
  have PO : wS.heap[bo]? = some (.cells #[.int .i64 q, .int .i64 (q + 1)] 49 (0, 0)) := by rw [hwS, hbo]; exact heap_alloc_new (w1.drewN mq) _
  have hbr : w.heap.size ≤ br := by have := hbb.out; omega
  rw [← hwS, ← hbo, ← hbr']
  rw [← hbr'] at PY'
  have BS := Lib.hid (Buf.then_ B0.out BX)
  have PBx := Lib.hid (hop BX PX'.out)
  have PR := Lib.hid (hop BX PY'.out)
  have PB := Lib.hid fun wx (hb : Below wS.heap.size wS wx) => c2 (hop hb PBx.out)
  have RG := Lib.hid fun wx (hb : Below wS.heap.size wS wx) => (HR.out.keep (Buf.then_ BS.out hb)).got
  have RL := Lib.hid fun wx (hb : Below wS.heap.size wS wx) => (HR.out.keep (Buf.then_ BS.out hb)).lost
  have RO := Lib.hid fun wx (hb : Below wS.heap.size wS wx) => rw_at ((rw_one (hop hb PO) q0 (by omega)))
  clear BX PO B0 PX' PY' HR hwS hbo hbr' hwb hbb
  have hw0 : Below wS.heap.size wS wS.drew := (Below.refl _ _).drew
  refine wp_region_noPanic ?_
  refine wp_region_any (by kernel_rfl) ?_
  refine Inv.wpAny_inv2 (fun k => k == 13 || k == 14) 11 99 [24, 25, 26, 27, 28, 29, 30, 31, 32, 23, 33, 34, 8] (fun w' => Below wS.heap.size wS w') (fun _ w1 w2 => Below w1.heap.size w1 w2) (fun k => ([fun v_ w_ => v_ = .pointer (some ⟨bb, 0, none⟩), fun v_ w_ => v_ = .slice ga gn gc, fun v_ w_ => v_ = .slice (some ⟨bo, 0, none⟩) 1 1, fun v_ w_ => ∃ a n c, v_ = .slice a n c ∧ Sw w_ (.slice a n c) (fun x => f x || decide (x = q)) (40 + 1), fun v_ w_ => v_ = .pointer (some ⟨bb, 1, none⟩), fun v_ w_ => v_ = .slice la ln lc, fun v_ w_ => v_ = .slice (some ⟨bo, 0, none⟩) 1 1, fun v_ w_ => ∃ a n c, v_ = .slice a n c ∧ Sw w_ (.slice a n c) (fun x => g x && !decide (x = q)) (1 + 2 * 40), fun v_ w_ => ∃ a n c a' n' c', v_ = .tuple #[.agg #[.slice a n c, .slice a' n' c'], .int .i64 0] ∧ Sw w_ (.slice a n c) (fun x => f x || decide (x = q)) (40 + 1) ∧ Sw w_ (.slice a' n' c') (fun x => g x && !decide (x = q)) (1 + 2 * 40), fun v_ w_ => ∃ a n c a' n' c', v_ = .tuple #[.agg #[.slice a n c, .slice a' n' c'], .int .i64 0] ∧ Sw w_ (.slice a n c) (fun x => f x || decide (x = q)) (40 + 1) ∧ Sw w_ (.slice a' n' c') (fun x => g x && !decide (x = q)) (1 + 2 * 40), fun v_ w_ => ∃ a n c a' n' c', v_ = .agg #[.slice a n c, .slice a' n' c'] ∧ Sw w_ (.slice a n c) (fun x => f x || decide (x = q)) (40 + 1) ∧ Sw w_ (.slice a' n' c') (fun x => g x && !decide (x = q)) (1 + 2 * 40), fun v_ w_ => v_ = .int .i64 0, fun v_ w_ => ∃ p, v_ = .pointer (some ⟨p, 0, none⟩) ∧ w_.heap[p]? = some (.cells #[.slice none 0 0, .slice none 0 0] 46 (0, 0)) ∧ wS.heap.size ≤ p, fun v_ w_ => True, fun v_ w_ => True] : List (Value → World → Prop)).getD k (fun _ _ => True)) _ (fun σ => by simp only [Inv.putAll, List.foldl_cons, List.foldl_nil, Act.put, List.setIfInBounds_toArray, List.set_cons_zero, List.set_cons_succ]; rfl) (by kernel_rfl) (by kernel_rfl) (by decide) ?_ hw0 ?_ ?_ (fun b1 b2 => cond b1 2 3) (fun b1 b2 => #[true, true, true, true, true, true, true, true, true, true, true, b1, true, false, false]) (by intro b1 b2; cases b1 <;> cases b2 <;> kernel_rfl) (by intro b1 b2; cases b1 <;> cases b2 <;> kernel_rfl) (by exact ⟨rfl, rfl⟩) ?_
  · intro j k v w1 w2 hjk hv hr
    rcases k with _ | k
    · exact hv
    rcases k with _ | k
    · exact hv
    rcases k with _ | k
    · exact hv
    rcases k with _ | k
    · exact by obtain ⟨a, n, c, e, h⟩ := hv; exact ⟨a, n, c, e, h.keep hr⟩
    rcases k with _ | k
    · exact hv
    rcases k with _ | k
    · exact hv
    rcases k with _ | k
    · exact hv
    rcases k with _ | k
    · exact by obtain ⟨a, n, c, e, h⟩ := hv; exact ⟨a, n, c, e, h.keep hr⟩
    rcases k with _ | k
    · exact by obtain ⟨a, n, c, a', n', c', e, h, h'⟩ := hv; exact ⟨a, n, c, a', n', c', e, h.keep hr, h'.keep hr⟩
    rcases k with _ | k
    · exact by obtain ⟨a, n, c, a', n', c', e, h, h'⟩ := hv; exact ⟨a, n, c, a', n', c', e, h.keep hr, h'.keep hr⟩
    rcases k with _ | k
    · exact by obtain ⟨a, n, c, a', n', c', e, h, h'⟩ := hv; exact ⟨a, n, c, a', n', c', e, h.keep hr, h'.keep hr⟩
    rcases k with _ | k
    · exact hv
    rcases k with _ | k
    · exact by obtain ⟨p, e, h, h0⟩ := hv; exact ⟨p, e, hop hr h, h0⟩
    rcases k with _ | k
    · exact hv
    rcases k with _ | k
    · exact hv
    · exact hv
  · intro k t hl hd
    rcases k with _ | k
    · exact absurd hl (by decide +kernel)
    rcases k with _ | k
    · exact absurd hl (by decide +kernel)
    rcases k with _ | k
    · exact absurd hl (by decide +kernel)
    rcases k with _ | k
    · exact absurd hl (by decide +kernel)
    rcases k with _ | k
    · exact absurd hl (by decide +kernel)
    rcases k with _ | k
    · exact absurd hl (by decide +kernel)
    rcases k with _ | k
    · exact absurd hl (by decide +kernel)
    rcases k with _ | k
    · exact absurd hl (by decide +kernel)
    rcases k with _ | k
    · exact absurd hl (by decide +kernel)
    rcases k with _ | k
    · exact absurd hl (by decide +kernel)
    rcases k with _ | k
    · exact absurd hl (by decide +kernel)
    rcases k with _ | k
    · exact absurd hl (by decide +kernel)
    rcases k with _ | k
    · exact absurd hl (by decide +kernel)
    rcases k with _ | k
    · exact absurd hl (by decide +kernel)
    rcases k with _ | k
    · exact absurd hl (by decide +kernel)
    · simp at hd
  · show Inv.Steps _ _ _ _ _ _ _ _ [0, 1, 2, 3, 4, 5, 6, 7, 8, 9, 10, 11, 12]
    refine Inv.Steps.go (by decide) (by rfl) (fun σ wx hw hd K hK => ?_) ?_
    · simp only [List.getElem_toArray, List.getElem_cons_zero, List.getElem_cons_succ, Act.put, List.setIfInBounds_toArray, List.set_cons_zero, List.set_cons_succ] at hK ⊢
      go_simp
      exact hK.out _ _ hw (Below.refl _ _) (rfl)
    refine Inv.Steps.go (by decide) (by rfl) (fun σ wx hw hd K hK => ?_) ?_
    · obtain e24 : (σ 24) = .pointer (some ⟨bb, 0, none⟩) := hd 0 (some 24) (by kernel_rfl) (by rfl)
      simp only [List.getElem_toArray, List.getElem_cons_zero, List.getElem_cons_succ, Act.put, List.setIfInBounds_toArray, List.set_cons_zero, List.set_cons_succ, e24] at hK ⊢
      obtain ⟨k0, k1_⟩ := PB.out _ hw
      go_simp
      exact hK.out _ _ hw (Below.refl _ _) (rfl)
    refine Inv.Steps.go (by decide) (by rfl) (fun σ wx hw hd K hK => ?_) ?_
    · simp only [List.getElem_toArray, List.getElem_cons_zero, List.getElem_cons_succ, Act.put, List.setIfInBounds_toArray, List.set_cons_zero, List.set_cons_succ] at hK ⊢
      go_simp
      exact hK.out _ _ hw (Below.refl _ _) (rfl)
    refine Inv.Steps.go (by decide) (by rfl) (fun σ wx hw hd K hK => ?_) ?_
    · obtain e25 : (σ 25) = .slice ga gn gc := hd 1 (some 25) (by kernel_rfl) (by rfl)
      obtain e26 : (σ 26) = .slice (some ⟨bo, 0, none⟩) 1 1 := hd 2 (some 26) (by kernel_rfl) (by rfl)
      simp only [List.getElem_toArray, List.getElem_cons_zero, List.getElem_cons_succ, Act.put, List.setIfInBounds_toArray, List.set_cons_zero, List.set_cons_succ, e25, e26] at hK ⊢
      go_simp
      go_at_call 16
      refine (union_sw (RG.out _ hw).rv (RO.out _ hw) (by omega) (by omega)).mono ?_
      rintro e w1 ⟨⟨r, rfl, hS⟩, hb⟩
      dsimp only
      obtain ⟨ra, rn, rc, rfl, _⟩ := Sw.form hS
      exact hK.out _ _ (Buf.then_ hw hb) hb (⟨_, _, _, rfl, hS⟩)
    refine Inv.Steps.go (by decide) (by rfl) (fun σ wx hw hd K hK => ?_) ?_
    · simp only [List.getElem_toArray, List.getElem_cons_zero, List.getElem_cons_succ, Act.put, List.setIfInBounds_toArray, List.set_cons_zero, List.set_cons_succ] at hK ⊢
      go_simp
      exact hK.out _ _ hw (Below.refl _ _) (rfl)
    refine Inv.Steps.go (by decide) (by rfl) (fun σ wx hw hd K hK => ?_) ?_
    · obtain e28 : (σ 28) = .pointer (some ⟨bb, 1, none⟩) := hd 4 (some 28) (by kernel_rfl) (by rfl)
      simp only [List.getElem_toArray, List.getElem_cons_zero, List.getElem_cons_succ, Act.put, List.setIfInBounds_toArray, List.set_cons_zero, List.set_cons_succ, e28] at hK ⊢
      obtain ⟨k0, k1_⟩ := PB.out _ hw
      go_simp
      exact hK.out _ _ hw (Below.refl _ _) (rfl)
    refine Inv.Steps.go (by decide) (by rfl) (fun σ wx hw hd K hK => ?_) ?_
    · simp only [List.getElem_toArray, List.getElem_cons_zero, List.getElem_cons_succ, Act.put, List.setIfInBounds_toArray, List.set_cons_zero, List.set_cons_succ] at hK ⊢
      go_simp
      exact hK.out _ _ hw (Below.refl _ _) (rfl)
    refine Inv.Steps.go (by decide) (by rfl) (fun σ wx hw hd K hK => ?_) ?_
    · obtain e29 : (σ 29) = .slice la ln lc := hd 5 (some 29) (by kernel_rfl) (by rfl)
      obtain e30 : (σ 30) = .slice (some ⟨bo, 0, none⟩) 1 1 := hd 6 (some 30) (by kernel_rfl) (by rfl)
      simp only [List.getElem_toArray, List.getElem_cons_zero, List.getElem_cons_succ, Act.put, List.setIfInBounds_toArray, List.set_cons_zero, List.set_cons_succ, e29, e30] at hK ⊢
      go_simp
      go_at_call 20
      refine (minus_sw (RL.out _ hw).rv (RO.out _ hw) (by omega) (by omega)).mono ?_
      rintro e w1 ⟨⟨r, rfl, hS⟩, hb⟩
      dsimp only
      obtain ⟨ra, rn, rc, rfl, _⟩ := Sw.form hS
      exact hK.out _ _ (Buf.then_ hw hb) hb (⟨_, _, _, rfl, hS⟩)
    refine Inv.Steps.go (by decide) (by rfl) (fun σ wx hw hd K hK => ?_) ?_
    · obtain ⟨ua, un, uc, e27, S27⟩ : ∃ a n c, (σ 27) = .slice a n c ∧ Sw wx (.slice a n c) (fun x => f x || decide (x = q)) (40 + 1) := hd 3 (some 27) (by kernel_rfl) (by rfl)
      obtain ⟨va, vn, vc, e31, S31⟩ : ∃ a n c, (σ 31) = .slice a n c ∧ Sw wx (.slice a n c) (fun x => g x && !decide (x = q)) (1 + 2 * 40) := hd 7 (some 31) (by kernel_rfl) (by rfl)
      simp only [List.getElem_toArray, List.getElem_cons_zero, List.getElem_cons_succ, Act.put, List.setIfInBounds_toArray, List.set_cons_zero, List.set_cons_succ, e27, e31] at hK ⊢
      have n1 := Sw.len S27
      have n2 := Sw.len S31
      go_simp
      go_at_call 65
      refine (limited_any _ _ _ _ _ _ (by omega) (by omega) _).mono ?_
      rintro e w1 ⟨rfl, hb⟩
      dsimp only
      exact hK.out _ _ (Buf.then_ hw hb) hb (⟨_, _, _, _, _, _, rfl, S27.keep hb, S31.keep hb⟩)
    refine Inv.Steps.go (by decide) (by rfl) (fun σ wx hw hd K hK => ?_) ?_
    · obtain ⟨ua, un, uc, va, vn, vc, e32, S27, S31⟩ : ∃ a n c a' n' c', (σ 32) = .tuple #[.agg #[.slice a n c, .slice a' n' c'], .int .i64 0] ∧ Sw wx (.slice a n c) (fun x => f x || decide (x = q)) (40 + 1) ∧ Sw wx (.slice a' n' c') (fun x => g x && !decide (x = q)) (1 + 2 * 40) := hd 8 (some 32) (by kernel_rfl) (by rfl)
      simp only [List.getElem_toArray, List.getElem_cons_zero, List.getElem_cons_succ, Act.put, List.setIfInBounds_toArray, List.set_cons_zero, List.set_cons_succ, e32] at hK ⊢
      go_simp
      exact hK.out _ _ hw (Below.refl _ _) (⟨_, _, _, _, _, _, rfl, S27, S31⟩)
    refine Inv.Steps.go (by decide) (by rfl) (fun σ wx hw hd K hK => ?_) ?_
    · obtain ⟨ua, un, uc, va, vn, vc, e23, S27, S31⟩ : ∃ a n c a' n' c', (σ 23) = .tuple #[.agg #[.slice a n c, .slice a' n' c'], .int .i64 0] ∧ Sw wx (.slice a n c) (fun x => f x || decide (x = q)) (40 + 1) ∧ Sw wx (.slice a' n' c') (fun x => g x && !decide (x = q)) (1 + 2 * 40) := hd 9 (some 23) (by kernel_rfl) (by rfl)
      simp only [List.getElem_toArray, List.getElem_cons_zero, List.getElem_cons_succ, Act.put, List.setIfInBounds_toArray, List.set_cons_zero, List.set_cons_succ, e23] at hK ⊢
      go_simp
      exact hK.out _ _ hw (Below.refl _ _) (⟨_, _, _, _, _, _, rfl, S27, S31⟩)
    refine Inv.Steps.go (by decide) (by rfl) (fun σ wx hw hd K hK => ?_) ?_
    · obtain ⟨ua, un, uc, va, vn, vc, e23, S27, S31⟩ : ∃ a n c a' n' c', (σ 23) = .tuple #[.agg #[.slice a n c, .slice a' n' c'], .int .i64 0] ∧ Sw wx (.slice a n c) (fun x => f x || decide (x = q)) (40 + 1) ∧ Sw wx (.slice a' n' c') (fun x => g x && !decide (x = q)) (1 + 2 * 40) := hd 9 (some 23) (by kernel_rfl) (by rfl)
      simp only [List.getElem_toArray, List.getElem_cons_zero, List.getElem_cons_succ, Act.put, List.setIfInBounds_toArray, List.set_cons_zero, List.set_cons_succ, e23] at hK ⊢
      go_simp
      exact hK.out _ _ hw (Below.refl _ _) (rfl)
    refine Inv.Steps.go (by decide) (by rfl) (fun σ wx hw hd K hK => ?_) ?_
    · simp only [List.getElem_toArray, List.getElem_cons_zero, List.getElem_cons_succ, Act.put, List.setIfInBounds_toArray, List.set_cons_zero, List.set_cons_succ] at hK ⊢
      go_simp
      exact hK.out _ _ (Buf.then_ hw (new_block _)) (new_block _) (⟨_, rfl, heap_alloc_new _ _, hw.size⟩)
    exact Inv.Steps.nil
  · intro b1 b2 σ wx hw hd
    cases b1
    · obtain ⟨ua, un, uc, va, vn, vc, e33, S27, S31⟩ : ∃ a n c a' n' c', (σ 33) = .agg #[.slice a n c, .slice a' n' c'] ∧ Sw wx (.slice a n c) (fun x => f x || decide (x = q)) (40 + 1) ∧ Sw wx (.slice a' n' c') (fun x => g x && !decide (x = q)) (1 + 2 * 40) := hd 10 (some 33) (by kernel_rfl) (by decide) (fun h => absurd h (by decide)) (by rfl)
      obtain ⟨p, e8, P8, p0⟩ : ∃ p, (σ 8) = .pointer (some ⟨p, 0, none⟩) ∧ wx.heap[p]? = some (.cells #[.slice none 0 0, .slice none 0 0] 46 (0, 0)) ∧ wS.heap.size ≤ p := hd 12 (some 8) (by kernel_rfl) (by decide) (fun h => absurd h (by decide)) (by rfl)
      have H9 : ∃ a n c a' n' c', (σ 23) = .tuple #[.agg #[.slice a n c, .slice a' n' c'], .int .i64 0] ∧ Sw wx (.slice a n c) (fun x => f x || decide (x = q)) (40 + 1) ∧ Sw wx (.slice a' n' c') (fun x => g x && !decide (x = q)) (1 + 2 * 40) := hd 9 (some 23) (by kernel_rfl) (by decide) (fun h => absurd h (by decide)) (by rfl)
      obtain ⟨ua2, un2, uc2, va2, vn2, vc2, e23, _, _⟩ := H9
      simp only [e33, e8, e23]
      refine Inv.take (i := 11) (v := .int .i64 0) (by decide) rfl (by kernel_rfl) (by kernel_rfl) (by kernel_rfl) (fun _ _ _ h => h) (by rfl) (fun w' => ?_) ?_
      · simp only [List.getElem_toArray, List.getElem_cons_zero, List.getElem_cons_succ]
        go_simp
      try simp only [Act.put, List.setIfInBounds_toArray, List.set_cons_zero, List.set_cons_succ]
      obtain ⟨k0, k1_⟩ := c2 P8
      have f0 := frozen_of_row wx p 0 _ _ P8
      have f1 := frozen_of_row wx p 1 _ _ P8
      refine Inv.one (i := 13) (by decide) (by kernel_rfl) (by rfl) (fun K hK => ?_)
      simp only [List.getElem_toArray, List.getElem_cons_zero, List.getElem_cons_succ, Act.put, List.setIfInBounds_toArray, List.set_cons_zero, List.set_cons_succ] at hK ⊢
      go_simp
      refine hK.out _ _ ?_
      clear hK K
      refine Inv.take (i := 14) (v := .int .i64 0) (by decide) rfl (by kernel_rfl) (by kernel_rfl) (by kernel_rfl) (fun _ _ _ h => h) (by rfl) (fun w' => ?_) ?_
      · simp only [List.getElem_toArray, List.getElem_cons_zero, List.getElem_cons_succ]
        go_simp
      try simp only [Act.put, List.setIfInBounds_toArray, List.set_cons_zero, List.set_cons_succ]
      refine Inv.done (by kernel_rfl) (NoPanic.normal ?_)
      have Q8 := (heap_setCell_same wx p 0 _ _ (.slice ua un uc) P8).trans rfl
      have Z := Lib.hid ((heap_setCell_same (wx.setCell ⟨p, 0, none⟩ (.slice ua un uc)) p 1 _ _ (.slice va vn vc) Q8).trans rfl)
      have NT := Lib.hid (Sw.short (Sw.set (Sw.set S27 P8 (o := 0) (.slice ua un uc)) Q8 (o := 1) (.slice va vn vc)) (by omega))
      have NU := Lib.hid (Sw.short (Sw.set (Sw.set S31 P8 (o := 0) (.slice ua un uc)) Q8 (o := 1) (.slice va vn vc)) (by omega))
      have BZ := Lib.hid ((hw.setCell (p := ⟨p, 0, none⟩) p0 (.slice ua un uc)).setCell (p := ⟨p, 1, none⟩) p0 (.slice va vn vc))
      clear k0 k1_ f0 f1 P8 S27 S31 hd hw e33 e8 Q8
      generalize (wx.setCell ⟨p, 0, none⟩ (.slice ua un uc)).setCell ⟨p, 1, none⟩ (.slice va vn vc) = wT at *
      go_upto_region 9 with fail
      have hw0 : Below wT.heap.size wT wT.drew := (Below.refl _ _).drew
      refine wp_region_noPanic ?_
      refine wp_region_any (by kernel_rfl) ?_
      refine Inv.wpAny_inv2 (fun k => k == 6 || k == 7 || k == 8) 5 99 [39, 40, 41, 42, 43, 44] (fun w' => Below wT.heap.size wT w') (fun _ w1 w2 => Below w1.heap.size w1 w2) (fun k => ([fun v_ w_ => v_ = .agg #[.slice ua un uc, .slice va vn vc], fun v_ w_ => v_ = .pointer (some ⟨bb, 0, none⟩), fun v_ w_ => v_ = .slice ga gn gc, fun v_ w_ => v_ = .int .i64 q, fun v_ w_ => v_ = .bool (f q), fun v_ w_ => v_ = .bool (!(f q)), fun v_ w_ => True, fun v_ w_ => True, fun v_ w_ => True] : List (Value → World → Prop)).getD k (fun _ _ => True)) _ (fun σ => by simp only [Inv.putAll, List.foldl_cons, List.foldl_nil, Act.put, List.setIfInBounds_toArray, List.set_cons_zero, List.set_cons_succ]; rfl) (by kernel_rfl) (by kernel_rfl) (by decide) ?_ hw0 ?_ ?_ (fun b1 b2 => cond b1 3 4) (fun b1 b2 => #[true, true, true, true, true, b1, false, false, false]) (by intro b1 b2; cases b1 <;> cases b2 <;> kernel_rfl) (by intro b1 b2; cases b1 <;> cases b2 <;> kernel_rfl) (by exact ⟨rfl, rfl⟩) ?_
      · intro j k v w1 w2 hjk hv hr
        rcases k with _ | k
        · exact hv
        rcases k with _ | k
        · exact hv
        rcases k with _ | k
        · exact hv
        rcases k with _ | k
        · exact hv
        rcases k with _ | k
        · exact hv
        rcases k with _ | k
        · exact hv
        rcases k with _ | k
        · exact hv
        rcases k with _ | k
        · exact hv
        rcases k with _ | k
        · exact hv
        · exact hv
      · intro k t hl hd
        rcases k with _ | k
        · exact absurd hl (by decide +kernel)
        rcases k with _ | k
        · exact absurd hl (by decide +kernel)
        rcases k with _ | k
        · exact absurd hl (by decide +kernel)
        rcases k with _ | k
        · exact absurd hl (by decide +kernel)
        rcases k with _ | k
        · exact absurd hl (by decide +kernel)
        rcases k with _ | k
        · exact absurd hl (by decide +kernel)
        rcases k with _ | k
        · exact absurd hl (by decide +kernel)
        rcases k with _ | k
        · exact absurd hl (by decide +kernel)
        rcases k with _ | k
        · exact absurd hl (by decide +kernel)
        · simp at hd
      · show Inv.Steps _ _ _ _ _ _ _ _ [0, 1, 2, 3, 4, 5]
        refine Inv.Steps.go (by decide) (by rfl) (fun σ wx hw hd K hK => ?_) ?_
        · simp only [List.getElem_toArray, List.getElem_cons_zero, List.getElem_cons_succ, Act.put, List.setIfInBounds_toArray, List.set_cons_zero, List.set_cons_succ] at hK ⊢
          have Zx := hop hw Z.out
          obtain ⟨q0_, q1_⟩ := c2 Zx
          go_simp
          exact hK.out _ _ hw (Below.refl _ _) (rfl)
        refine Inv.Steps.go (by decide) (by rfl) (fun σ wx hw hd K hK => ?_) ?_
        · simp only [List.getElem_toArray, List.getElem_cons_zero, List.getElem_cons_succ, Act.put, List.setIfInBounds_toArray, List.set_cons_zero, List.set_cons_succ] at hK ⊢
          go_simp
          exact hK.out _ _ hw (Below.refl _ _) (rfl)
        refine Inv.Steps.go (by decide) (by rfl) (fun σ wx hw hd K hK => ?_) ?_
        · obtain e40 : (σ 40) = .pointer (some ⟨bb, 0, none⟩) := hd 1 (some 40) (by kernel_rfl) (by rfl)
          simp only [List.getElem_toArray, List.getElem_cons_zero, List.getElem_cons_succ, Act.put, List.setIfInBounds_toArray, List.set_cons_zero, List.set_cons_succ, e40] at hK ⊢
          obtain ⟨k0, k1_⟩ := PB.out _ (Buf.then_ BZ.out hw)
          go_simp
          exact hK.out _ _ hw (Below.refl _ _) (rfl)
        refine Inv.Steps.go (by decide) (by rfl) (fun σ wx hw hd K hK => ?_) ?_
        · simp only [List.getElem_toArray, List.getElem_cons_zero, List.getElem_cons_succ, Act.put, List.setIfInBounds_toArray, List.set_cons_zero, List.set_cons_succ] at hK ⊢
          go_simp
          exact hK.out _ _ hw (Below.refl _ _) (rfl)
        refine Inv.Steps.go (by decide) (by rfl) (fun σ wx hw hd K hK => ?_) ?_
        · obtain e41 : (σ 41) = .slice ga gn gc := hd 2 (some 41) (by kernel_rfl) (by rfl)
          obtain e42 : (σ 42) = .int .i64 q := hd 3 (some 42) (by kernel_rfl) (by rfl)
          simp only [List.getElem_toArray, List.getElem_cons_zero, List.getElem_cons_succ, Act.put, List.setIfInBounds_toArray, List.set_cons_zero, List.set_cons_succ, e41, e42] at hK ⊢
          go_simp
          go_at_call 27
          refine (has_sw q (RG.out _ (Buf.then_ BZ.out hw)).rv (by omega)).mono ?_
          rintro e w1 ⟨rfl, hb⟩
          dsimp only
          exact hK.out _ _ (Buf.then_ hw hb) hb (rfl)
        refine Inv.Steps.go (by decide) (by rfl) (fun σ wx hw hd K hK => ?_) ?_
        · obtain e43 : (σ 43) = .bool (f q) := hd 4 (some 43) (by kernel_rfl) (by rfl)
          simp only [List.getElem_toArray, List.getElem_cons_zero, List.getElem_cons_succ, Act.put, List.setIfInBounds_toArray, List.set_cons_zero, List.set_cons_succ, e43] at hK ⊢
          go_simp
          exact hK.out _ _ hw (Below.refl _ _) (rfl)
        exact Inv.Steps.nil
      · intro b1 b2 σ wx hw hd
        cases b1
        · obtain e39 : (σ 39) = .agg #[.slice ua un uc, .slice va vn vc] := hd 0 (some 39) (by kernel_rfl) (by decide) (fun h => absurd h (by decide)) (by rfl)
          obtain e43 : (σ 43) = .bool (f q) := hd 4 (some 43) (by kernel_rfl) (by decide) (fun h => absurd h (by decide)) (by rfl)
          simp only [e39, e43]
          refine Inv.take (i := 5) (v := .bool (!(f q))) (by decide) rfl (by kernel_rfl) (by kernel_rfl) (by kernel_rfl) (fun _ _ _ h => h) (by rfl) (fun w' => ?_) ?_
          · simp only [List.getElem_toArray, List.getElem_cons_zero, List.getElem_cons_succ]
            go_simp
          try simp only [Act.put, List.setIfInBounds_toArray, List.set_cons_zero, List.set_cons_succ]
          have P4 := hop (Buf.then_ BZ.out hw) PR.out
          obtain ⟨k0, k1_⟩ := c2 P4
          have f0 := frozen_of_row wx br 0 _ _ P4
          have f1 := frozen_of_row wx br 1 _ _ P4
          refine Inv.one (i := 6) (by decide) (by kernel_rfl) (by rfl) (fun K hK => ?_)
          simp only [List.getElem_toArray, List.getElem_cons_zero, List.getElem_cons_succ, Act.put, List.setIfInBounds_toArray, List.set_cons_zero, List.set_cons_succ] at hK ⊢
          go_simp
          refine hK.out _ _ ?_
          clear hK K
          refine Inv.take (i := 7) (v := .bool (!(f q))) (by decide) rfl (by kernel_rfl) (by kernel_rfl) (by kernel_rfl) (fun _ _ _ h => h) (by rfl) (fun w' => ?_) ?_
          · simp only [List.getElem_toArray, List.getElem_cons_zero, List.getElem_cons_succ]
            go_simp
          try simp only [Act.put, List.setIfInBounds_toArray, List.set_cons_zero, List.set_cons_succ]
          refine Inv.take (i := 8) (v := .int .i64 0) (by decide) rfl (by kernel_rfl) (by kernel_rfl) (by kernel_rfl) (fun _ _ _ h => h) (by rfl) (fun w' => ?_) ?_
          · simp only [List.getElem_toArray, List.getElem_cons_zero, List.getElem_cons_succ]
            go_simp
          try simp only [Act.put, List.setIfInBounds_toArray, List.set_cons_zero, List.set_cons_succ]
          refine Inv.done (by kernel_rfl) (NoPanic.normal ?_)
          have Q4 := (heap_setCell_same wx br 0 _ _ (.slice ua un uc) P4).trans rfl
          have Z4 := (heap_setCell_same (wx.setCell ⟨br, 0, none⟩ (.slice ua un uc)) br 1 _ _ (.slice va vn vc) Q4).trans rfl
          have RR := Lib.hid (show Rd _ _ _ _ _ from ⟨Sw.set (Sw.set (NT.out.keep hw) P4 (o := 0) (.slice ua un uc)) Q4 (o := 1) (.slice va vn vc), Sw.set (Sw.set (NU.out.keep hw) P4 (o := 0) (.slice ua un uc)) Q4 (o := 1) (.slice va vn vc), AP2.out⟩)
          have BQ := Lib.hid (((BS.out.trans ((Buf.then_ BZ.out hw).mono BS.out.size)).setCell (p := ⟨br, 0, none⟩) hbr (.slice ua un uc)).setCell (p := ⟨br, 1, none⟩) hbr (.slice va vn vc))
          clear k0 k1_ f0 f1 P4 Q4 hd hw e39
          generalize (wx.setCell ⟨br, 0, none⟩ (.slice ua un uc)).setCell ⟨br, 1, none⟩ (.slice va vn vc) = wU at *
          obtain ⟨k0, k1_⟩ := c2 Z4
          clear Z4
          go_wp2_with fail
          refine bodyPost_ret (v := .tuple #[.agg #[.slice ua un uc, .slice va vn vc], .bool (!(f q)), .int .i64 0]) (by simp [results, Try.results39, go_sem, k0, k1_]) rfl ⟨⟨_, _, rfl, RR.out⟩, BQ.out⟩
        · obtain e39 : (σ 39) = .agg #[.slice ua un uc, .slice va vn vc] := hd 0 (some 39) (by kernel_rfl) (by decide) (fun h => absurd h (by decide)) (by rfl)
          obtain e44 : (σ 44) = .bool (!(f q)) := hd 5 (some 44) (by kernel_rfl) (by decide) (fun h => absurd h (by decide)) (by rfl)
          simp only [e39, e44]
          have P4 := hop (Buf.then_ BZ.out hw) PR.out
          obtain ⟨k0, k1_⟩ := c2 P4
          have f0 := frozen_of_row wx br 0 _ _ P4
          have f1 := frozen_of_row wx br 1 _ _ P4
          refine Inv.one (i := 6) (by decide) (by kernel_rfl) (by rfl) (fun K hK => ?_)
          simp only [List.getElem_toArray, List.getElem_cons_zero, List.getElem_cons_succ, Act.put, List.setIfInBounds_toArray, List.set_cons_zero, List.set_cons_succ] at hK ⊢
          go_simp
          refine hK.out _ _ ?_
          clear hK K
          refine Inv.take (i := 7) (v := .bool (!(f q))) (by decide) rfl (by kernel_rfl) (by kernel_rfl) (by kernel_rfl) (fun _ _ _ h => h) (by rfl) (fun w' => ?_) ?_
          · simp only [List.getElem_toArray, List.getElem_cons_zero, List.getElem_cons_succ]
            go_simp
          try simp only [Act.put, List.setIfInBounds_toArray, List.set_cons_zero, List.set_cons_succ]
          refine Inv.take (i := 8) (v := .int .i64 0) (by decide) rfl (by kernel_rfl) (by kernel_rfl) (by kernel_rfl) (fun _ _ _ h => h) (by rfl) (fun w' => ?_) ?_
          · simp only [List.getElem_toArray, List.getElem_cons_zero, List.getElem_cons_succ]
            go_simp
          try simp only [Act.put, List.setIfInBounds_toArray, List.set_cons_zero, List.set_cons_succ]
          refine Inv.done (by kernel_rfl) (NoPanic.normal ?_)
          have Q4 := (heap_setCell_same wx br 0 _ _ (.slice ua un uc) P4).trans rfl
          have Z4 := (heap_setCell_same (wx.setCell ⟨br, 0, none⟩ (.slice ua un uc)) br 1 _ _ (.slice va vn vc) Q4).trans rfl
          have RR := Lib.hid (show Rd _ _ _ _ _ from ⟨Sw.set (Sw.set (NT.out.keep hw) P4 (o := 0) (.slice ua un uc)) Q4 (o := 1) (.slice va vn vc), Sw.set (Sw.set (NU.out.keep hw) P4 (o := 0) (.slice ua un uc)) Q4 (o := 1) (.slice va vn vc), AP2.out⟩)
          have BQ := Lib.hid (((BS.out.trans ((Buf.then_ BZ.out hw).mono BS.out.size)).setCell (p := ⟨br, 0, none⟩) hbr (.slice ua un uc)).setCell (p := ⟨br, 1, none⟩) hbr (.slice va vn vc))
          clear k0 k1_ f0 f1 P4 Q4 hd hw e39
          generalize (wx.setCell ⟨br, 0, none⟩ (.slice ua un uc)).setCell ⟨br, 1, none⟩ (.slice va vn vc) = wU at *
          obtain ⟨k0, k1_⟩ := c2 Z4
          clear Z4
          go_wp2_with fail
          refine bodyPost_ret (v := .tuple #[.agg #[.slice ua un uc, .slice va vn vc], .bool (!(f q)), .int .i64 0]) (by simp [results, Try.results39, go_sem, k0, k1_]) rfl ⟨⟨_, _, rfl, RR.out⟩, BQ.out⟩
    · obtain ⟨ua, un, uc, va, vn, vc, e33, S27, S31⟩ : ∃ a n c a' n' c', (σ 33) = .agg #[.slice a n c, .slice a' n' c'] ∧ Sw wx (.slice a n c) (fun x => f x || decide (x = q)) (40 + 1) ∧ Sw wx (.slice a' n' c') (fun x => g x && !decide (x = q)) (1 + 2 * 40) := hd 10 (some 33) (by kernel_rfl) (by decide) (fun h => absurd h (by decide)) (by rfl)
      obtain ⟨p, e8, P8, p0⟩ : ∃ p, (σ 8) = .pointer (some ⟨p, 0, none⟩) ∧ wx.heap[p]? = some (.cells #[.slice none 0 0, .slice none 0 0] 46 (0, 0)) ∧ wS.heap.size ≤ p := hd 12 (some 8) (by kernel_rfl) (by decide) (fun h => absurd h (by decide)) (by rfl)
      obtain e34 : (σ 34) = .int .i64 0 := hd 11 (some 34) (by kernel_rfl) (by decide) (fun h => absurd h (by decide)) (by rfl)
      simp only [e33, e8, e34]
      obtain ⟨k0, k1_⟩ := c2 P8
      have f0 := frozen_of_row wx p 0 _ _ P8
      have f1 := frozen_of_row wx p 1 _ _ P8
      refine Inv.one (i := 13) (by decide) (by kernel_rfl) (by rfl) (fun K hK => ?_)
      simp only [List.getElem_toArray, List.getElem_cons_zero, List.getElem_cons_succ, Act.put, List.setIfInBounds_toArray, List.set_cons_zero, List.set_cons_succ] at hK ⊢
      go_simp
      refine hK.out _ _ ?_
      clear hK K
      refine Inv.take (i := 14) (v := .int .i64 0) (by decide) rfl (by kernel_rfl) (by kernel_rfl) (by kernel_rfl) (fun _ _ _ h => h) (by rfl) (fun w' => ?_) ?_
      · simp only [List.getElem_toArray, List.getElem_cons_zero, List.getElem_cons_succ]
        go_simp
      try simp only [Act.put, List.setIfInBounds_toArray, List.set_cons_zero, List.set_cons_succ]
      refine Inv.done (by kernel_rfl) (NoPanic.normal ?_)
      have Q8 := (heap_setCell_same wx p 0 _ _ (.slice ua un uc) P8).trans rfl
      have Z := Lib.hid ((heap_setCell_same (wx.setCell ⟨p, 0, none⟩ (.slice ua un uc)) p 1 _ _ (.slice va vn vc) Q8).trans rfl)
      have NT := Lib.hid (Sw.short (Sw.set (Sw.set S27 P8 (o := 0) (.slice ua un uc)) Q8 (o := 1) (.slice va vn vc)) (by omega))
      have NU := Lib.hid (Sw.short (Sw.set (Sw.set S31 P8 (o := 0) (.slice ua un uc)) Q8 (o := 1) (.slice va vn vc)) (by omega))
      have BZ := Lib.hid ((hw.setCell (p := ⟨p, 0, none⟩) p0 (.slice ua un uc)).setCell (p := ⟨p, 1, none⟩) p0 (.slice va vn vc))
      clear k0 k1_ f0 f1 P8 S27 S31 hd hw e33 e8 Q8
      generalize (wx.setCell ⟨p, 0, none⟩ (.slice ua un uc)).setCell ⟨p, 1, none⟩ (.slice va vn vc) = wT at *
      go_upto_region 9 with fail
      have hw0 : Below wT.heap.size wT wT.drew := (Below.refl _ _).drew
      refine wp_region_noPanic ?_
      refine wp_region_any (by kernel_rfl) ?_
      refine Inv.wpAny_inv2 (fun k => k == 6 || k == 7 || k == 8) 5 99 [39, 40, 41, 42, 43, 44] (fun w' => Below wT.heap.size wT w') (fun _ w1 w2 => Below w1.heap.size w1 w2) (fun k => ([fun v_ w_ => v_ = .agg #[.slice ua un uc, .slice va vn vc], fun v_ w_ => v_ = .pointer (some ⟨bb, 0, none⟩), fun v_ w_ => v_ = .slice ga gn gc, fun v_ w_ => v_ = .int .i64 q, fun v_ w_ => v_ = .bool (f q), fun v_ w_ => v_ = .bool (!(f q)), fun v_ w_ => True, fun v_ w_ => True, fun v_ w_ => True] : List (Value → World → Prop)).getD k (fun _ _ => True)) _ (fun σ => by simp only [Inv.putAll, List.foldl_cons, List.foldl_nil, Act.put, List.setIfInBounds_toArray, List.set_cons_zero, List.set_cons_succ]; rfl) (by kernel_rfl) (by kernel_rfl) (by decide) ?_ hw0 ?_ ?_ (fun b1 b2 => cond b1 3 4) (fun b1 b2 => #[true, true, true, true, true, b1, false, false, false]) (by intro b1 b2; cases b1 <;> cases b2 <;> kernel_rfl) (by intro b1 b2; cases b1 <;> cases b2 <;> kernel_rfl) (by exact ⟨rfl, rfl⟩) ?_
      · intro j k v w1 w2 hjk hv hr
        rcases k with _ | k
        · exact hv
        rcases k with _ | k
        · exact hv
        rcases k with _ | k
        · exact hv
        rcases k with _ | k
        · exact hv
        rcases k with _ | k
        · exact hv
        rcases k with _ | k
        · exact hv
        rcases k with _ | k
        · exact hv
        rcases k with _ | k
        · exact hv
        rcases k with _ | k
        · exact hv
        · exact hv
      · intro k t hl hd
        rcases k with _ | k
        · exact absurd hl (by decide +kernel)
        rcases k with _ | k
        · exact absurd hl (by decide +kernel)
        rcases k with _ | k
        · exact absurd hl (by decide +kernel)
        rcases k with _ | k
        · exact absurd hl (by decide +kernel)
        rcases k with _ | k
        · exact absurd hl (by decide +kernel)
        rcases k with _ | k
        · exact absurd hl (by decide +kernel)
        rcases k with _ | k
        · exact absurd hl (by decide +kernel)
        rcases k with _ | k
        · exact absurd hl (by decide +kernel)
        rcases k with _ | k
        · exact absurd hl (by decide +kernel)
        · simp at hd
      · show Inv.Steps _ _ _ _ _ _ _ _ [0, 1, 2, 3, 4, 5]
        refine Inv.Steps.go (by decide) (by rfl) (fun σ wx hw hd K hK => ?_) ?_
        · simp only [List.getElem_toArray, List.getElem_cons_zero, List.getElem_cons_succ, Act.put, List.setIfInBounds_toArray, List.set_cons_zero, List.set_cons_succ] at hK ⊢
          have Zx := hop hw Z.out
          obtain ⟨q0_, q1_⟩ := c2 Zx
          go_simp
          exact hK.out _ _ hw (Below.refl _ _) (rfl)
        refine Inv.Steps.go (by decide) (by rfl) (fun σ wx hw hd K hK => ?_) ?_
        · simp only [List.getElem_toArray, List.getElem_cons_zero, List.getElem_cons_succ, Act.put, List.setIfInBounds_toArray, List.set_cons_zero, List.set_cons_succ] at hK ⊢
          go_simp
          exact hK.out _ _ hw (Below.refl _ _) (rfl)
        refine Inv.Steps.go (by decide) (by rfl) (fun σ wx hw hd K hK => ?_) ?_
        · obtain e40 : (σ 40) = .pointer (some ⟨bb, 0, none⟩) := hd 1 (some 40) (by kernel_rfl) (by rfl)
          simp only [List.getElem_toArray, List.getElem_cons_zero, List.getElem_cons_succ, Act.put, List.setIfInBounds_toArray, List.set_cons_zero, List.set_cons_succ, e40] at hK ⊢
          obtain ⟨k0, k1_⟩ := PB.out _ (Buf.then_ BZ.out hw)
          go_simp
          exact hK.out _ _ hw (Below.refl _ _) (rfl)
        refine Inv.Steps.go (by decide) (by rfl) (fun σ wx hw hd K hK => ?_) ?_
        · simp only [List.getElem_toArray, List.getElem_cons_zero, List.getElem_cons_succ, Act.put, List.setIfInBounds_toArray, List.set_cons_zero, List.set_cons_succ] at hK ⊢
          go_simp
          exact hK.out _ _ hw (Below.refl _ _) (rfl)
        refine Inv.Steps.go (by decide) (by rfl) (fun σ wx hw hd K hK => ?_) ?_
        · obtain e41 : (σ 41) = .slice ga gn gc := hd 2 (some 41) (by kernel_rfl) (by rfl)
          obtain e42 : (σ 42) = .int .i64 q := hd 3 (some 42) (by kernel_rfl) (by rfl)
          simp only [List.getElem_toArray, List.getElem_cons_zero, List.getElem_cons_succ, Act.put, List.setIfInBounds_toArray, List.set_cons_zero, List.set_cons_succ, e41, e42] at hK ⊢
          go_simp
          go_at_call 27
          refine (has_sw q (RG.out _ (Buf.then_ BZ.out hw)).rv (by omega)).mono ?_
          rintro e w1 ⟨rfl, hb⟩
          dsimp only
          exact hK.out _ _ (Buf.then_ hw hb) hb (rfl)
        refine Inv.Steps.go (by decide) (by rfl) (fun σ wx hw hd K hK => ?_) ?_
        · obtain e43 : (σ 43) = .bool (f q) := hd 4 (some 43) (by kernel_rfl) (by rfl)
          simp only [List.getElem_toArray, List.getElem_cons_zero, List.getElem_cons_succ, Act.put, List.setIfInBounds_toArray, List.set_cons_zero, List.set_cons_succ, e43] at hK ⊢
          go_simp
          exact hK.out _ _ hw (Below.refl _ _) (rfl)
        exact Inv.Steps.nil
      · intro b1 b2 σ wx hw hd
        cases b1
        · obtain e39 : (σ 39) = .agg #[.slice ua un uc, .slice va vn vc] := hd 0 (some 39) (by kernel_rfl) (by decide) (fun h => absurd h (by decide)) (by rfl)
          obtain e43 : (σ 43) = .bool (f q) := hd 4 (some 43) (by kernel_rfl) (by decide) (fun h => absurd h (by decide)) (by rfl)
          simp only [e39, e43]
          refine Inv.take (i := 5) (v := .bool (!(f q))) (by decide) rfl (by kernel_rfl) (by kernel_rfl) (by kernel_rfl) (fun _ _ _ h => h) (by rfl) (fun w' => ?_) ?_
          · simp only [List.getElem_toArray, List.getElem_cons_zero, List.getElem_cons_succ]
            go_simp
          try simp only [Act.put, List.setIfInBounds_toArray, List.set_cons_zero, List.set_cons_succ]
          have P4 := hop (Buf.then_ BZ.out hw) PR.out
          obtain ⟨k0, k1_⟩ := c2 P4
          have f0 := frozen_of_row wx br 0 _ _ P4
          have f1 := frozen_of_row wx br 1 _ _ P4
          refine Inv.one (i := 6) (by decide) (by kernel_rfl) (by rfl) (fun K hK => ?_)
          simp only [List.getElem_toArray, List.getElem_cons_zero, List.getElem_cons_succ, Act.put, List.setIfInBounds_toArray, List.set_cons_zero, List.set_cons_succ] at hK ⊢
          go_simp
          refine hK.out _ _ ?_
          clear hK K
          refine Inv.take (i := 7) (v := .bool (!(f q))) (by decide) rfl (by kernel_rfl) (by kernel_rfl) (by kernel_rfl) (fun _ _ _ h => h) (by rfl) (fun w' => ?_) ?_
          · simp only [List.getElem_toArray, List.getElem_cons_zero, List.getElem_cons_succ]
            go_simp
          try simp only [Act.put, List.setIfInBounds_toArray, List.set_cons_zero, List.set_cons_succ]
          refine Inv.take (i := 8) (v := .int .i64 0) (by decide) rfl (by kernel_rfl) (by kernel_rfl) (by kernel_rfl) (fun _ _ _ h => h) (by rfl) (fun w' => ?_) ?_
          · simp only [List.getElem_toArray, List.getElem_cons_zero, List.getElem_cons_succ]
            go_simp
          try simp only [Act.put, List.setIfInBounds_toArray, List.set_cons_zero, List.set_cons_succ]
          refine Inv.done (by kernel_rfl) (NoPanic.normal ?_)
          have Q4 := (heap_setCell_same wx br 0 _ _ (.slice ua un uc) P4).trans rfl
          have Z4 := (heap_setCell_same (wx.setCell ⟨br, 0, none⟩ (.slice ua un uc)) br 1 _ _ (.slice va vn vc) Q4).trans rfl
          have RR := Lib.hid (show Rd _ _ _ _ _ from ⟨Sw.set (Sw.set (NT.out.keep hw) P4 (o := 0) (.slice ua un uc)) Q4 (o := 1) (.slice va vn vc), Sw.set (Sw.set (NU.out.keep hw) P4 (o := 0) (.slice ua un uc)) Q4 (o := 1) (.slice va vn vc), AP2.out⟩)
          have BQ := Lib.hid (((BS.out.trans ((Buf.then_ BZ.out hw).mono BS.out.size)).setCell (p := ⟨br, 0, none⟩) hbr (.slice ua un uc)).setCell (p := ⟨br, 1, none⟩) hbr (.slice va vn vc))
          clear k0 k1_ f0 f1 P4 Q4 hd hw e39
          generalize (wx.setCell ⟨br, 0, none⟩ (.slice ua un uc)).setCell ⟨br, 1, none⟩ (.slice va vn vc) = wU at *
          obtain ⟨k0, k1_⟩ := c2 Z4
          clear Z4
          go_wp2_with fail
          refine bodyPost_ret (v := .tuple #[.agg #[.slice ua un uc, .slice va vn vc], .bool (!(f q)), .int .i64 0]) (by simp [results, Try.results39, go_sem, k0, k1_]) rfl ⟨⟨_, _, rfl, RR.out⟩, BQ.out⟩
        · obtain e39 : (σ 39) = .agg #[.slice ua un uc, .slice va vn vc] := hd 0 (some 39) (by kernel_rfl) (by decide) (fun h => absurd h (by decide)) (by rfl)
          obtain e44 : (σ 44) = .bool (!(f q)) := hd 5 (some 44) (by kernel_rfl) (by decide) (fun h => absurd h (by decide)) (by rfl)
          simp only [e39, e44]
          have P4 := hop (Buf.then_ BZ.out hw) PR.out
          obtain ⟨k0, k1_⟩ := c2 P4
          have f0 := frozen_of_row wx br 0 _ _ P4
          have f1 := frozen_of_row wx br 1 _ _ P4
          refine Inv.one (i := 6) (by decide) (by kernel_rfl) (by rfl) (fun K hK => ?_)
          simp only [List.getElem_toArray, List.getElem_cons_zero, List.getElem_cons_succ, Act.put, List.setIfInBounds_toArray, List.set_cons_zero, List.set_cons_succ] at hK ⊢
          go_simp
          refine hK.out _ _ ?_
          clear hK K
          refine Inv.take (i := 7) (v := .bool (!(f q))) (by decide) rfl (by kernel_rfl) (by kernel_rfl) (by kernel_rfl) (fun _ _ _ h => h) (by rfl) (fun w' => ?_) ?_
          · simp only [List.getElem_toArray, List.getElem_cons_zero, List.getElem_cons_succ]
            go_simp
          try simp only [Act.put, List.setIfInBounds_toArray, List.set_cons_zero, List.set_cons_succ]
          refine Inv.take (i := 8) (v := .int .i64 0) (by decide) rfl (by kernel_rfl) (by kernel_rfl) (by kernel_rfl) (fun _ _ _ h => h) (by rfl) (fun w' => ?_) ?_
          · simp only [List.getElem_toArray, List.getElem_cons_zero, List.getElem_cons_succ]
            go_simp
          try simp only [Act.put, List.setIfInBounds_toArray, List.set_cons_zero, List.set_cons_succ]
          refine Inv.done (by kernel_rfl) (NoPanic.normal ?_)
          have Q4 := (heap_setCell_same wx br 0 _ _ (.slice ua un uc) P4).trans rfl
          have Z4 := (heap_setCell_same (wx.setCell ⟨br, 0, none⟩ (.slice ua un uc)) br 1 _ _ (.slice va vn vc) Q4).trans rfl
          have RR := Lib.hid (show Rd _ _ _ _ _ from ⟨Sw.set (Sw.set (NT.out.keep hw) P4 (o := 0) (.slice ua un uc)) Q4 (o := 1) (.slice va vn vc), Sw.set (Sw.set (NU.out.keep hw) P4 (o := 0) (.slice ua un uc)) Q4 (o := 1) (.slice va vn vc), AP2.out⟩)
          have BQ := Lib.hid (((BS.out.trans ((Buf.then_ BZ.out hw).mono BS.out.size)).setCell (p := ⟨br, 0, none⟩) hbr (.slice ua un uc)).setCell (p := ⟨br, 1, none⟩) hbr (.slice va vn vc))
          clear k0 k1_ f0 f1 P4 Q4 hd hw e39
          generalize (wx.setCell ⟨br, 0, none⟩ (.slice ua un uc)).setCell ⟨br, 1, none⟩ (.slice va vn vc) = wU at *
          obtain ⟨k0, k1_⟩ := c2 Z4
          clear Z4
          go_wp2_with fail
          refine bodyPost_ret (v := .tuple #[.agg #[.slice ua un uc, .slice va vn vc], .bool (!(f q)), .int .i64 0]) (by simp [results, Try.results39, go_sem, k0, k1_]) rfl ⟨⟨_, _, rfl, RR.out⟩, BQ.out⟩
end Rx
end Go.Proofs.Ytfmhfhggogjbkaa

/- receiver.Lose for any lists. -/
set_option linter.unusedVariables false
set_option linter.unusedSimpArgs false
namespace Go.Proofs.Ytfmhfhggogjbkaa
open Go.RowKit Dice Wi
namespace Rx
open Spn
open Sp (cells2 cells2_snoc cells2_get Spans own_kept own_below own_mono own_shape)
theorem clone_sw {w : World} {v : Value} {f : Int → Bool} (h : Sw w v f 40) :
    Calls Try.prog 57 #[v] w fun e w' => (∃ r, e = .returned r ∧ Sw w' r f 40) ∧ Below w.heap.size w w' := by
  obtain ⟨N, h1, h2, h3, h4⟩ := h
  refine (clone_anyw h1 (by omega)).mono ?_
  rintro e w' ⟨⟨r, rfl, hS⟩, hb⟩
  exact ⟨⟨r, rfl, N, (its_of_own hS).wide, h2, h3, h4⟩, hb⟩
/-- What Lose returns. -/
def Los (f g : Int → Bool) (q : Int) (w : World) (e : Ending) : Prop := ∃ vg vl, e = .returned (.tuple #[.agg #[vg, vl], .int .i64 0]) ∧ Rd w vg vl f (fun x => g x || (decide (0 ≤ x ∧ x < q) && !f x))
set_option maxHeartbeats 8000000 in
set_option maxRecDepth 100000 in
theorem lose_any {w : World} {vg vl : Value} {f g : Int → Bool} (h : Rc w vg vl f g) (q : Int) (q0 : 0 ≤ q) (q9 : q ≤ 1073741825) :
    Calls Try.prog 41 #[.agg #[vg, vl], .int .i64 q] w fun e w' => Los f g q w' e ∧ Below w.heap.size w w' := by
  obtain ⟨ga, gn, gc, rfl, _⟩ := Sw.form h.got
  obtain ⟨la, ln, lc, rfl, _⟩ := Sw.form h.lost
  have AP2 := Lib.hid (show ∀ x, (f x && (fun x => g x || (decide (0 ≤ x ∧ x < q) && !f x)) x) = false from fun x => by
    have := h.apart x
    cases hf : f x <;> simp [hf] at this ⊢
    exact this)
  have HR := Lib.hid h
  clear h
  go_enter Try.func41, Try.ntmps41
  obtain ⟨bb, hbb⟩ : ∃ bb, bb = w.heap.size := ⟨_, rfl⟩
  obtain ⟨wb, hwb⟩ : ∃ wb, wb = (w.alloc (.cells #[.slice ga gn gc, .slice la ln lc] 46)).alloc (.cells #[.slice none 0 0, .slice none 0 0] 46) := ⟨_, rfl⟩
  have B0 := Lib.hid (show Below w.heap.size w wb by rw [hwb]; exact Buf.then_ (new_block _) (new_block _))
  have PX : wb.heap[bb]? = some (.cells #[.slice ga gn gc, .slice la ln lc] 46 (0, 0)) := by rw [hwb, hbb]; exact hop (new_block _) (heap_alloc_new w _)
  have PY : wb.heap[bb + 1]? = some (.cells #[.slice none 0 0, .slice none 0 0] 46 (0, 0)) := by
    have e : (w.alloc (.cells #[.slice ga gn gc, .slice la ln lc] 46)).heap.size = bb + 1 := by rw [hbb]; simp
    rw [hwb, ← e]; exact heap_alloc_new _ _
  obtain ⟨k0, k1⟩ := c2 PX
  have V := Lib.hid (valid_any (HR.out.keep B0.out))
  have PX' := Lib.hid PX
  have PY' := Lib.hid PY
  clear PX PY
  go_wp2_with fail
  rw [← hwb, ← hbb]
  refine V.out.mono ?_
  rintro e w1 ⟨rfl, hb⟩
  clear k0 k1 V
  replace PX' := Lib.hid (hop hb PX'.out)
  replace PY' := Lib.hid (hop hb PY'.out)
  replace B0 := Lib.hid (Buf.then_ B0.out hb)
  clear hb
  replace hwb := Lib.hid hwb
  replace hbb := Lib.hid hbb
  obtain ⟨k0, k1⟩ := c2 PX'.out
  have KA : ∀ (mq : Nat) (o : Obj), ((w1.drewN mq).alloc o).cell? ⟨bb, 0, none⟩ = some (.slice ga gn gc) := fun mq o => (c2 (hop ((Buf.below_drewN (Below.refl w1.heap.size w1) mq).alloc (Nat.le_refl _) o) PX'.out)).1
  go_wp2_with (go_at_call 64; refine (within_yes _ _ _ _ (by omega) (by omega)).mono ?_; rintro e w' ⟨rfl, mq, rfl⟩)
  obtain ⟨wA, hwA⟩ : ∃ wA, wA = (w1.drewN mq).alloc (.cells #[.int .i64 0, .int .i64 q] 49) := ⟨_, rfl⟩
  obtain ⟨bo, hbo⟩ : ∃ bo, bo = w1.heap.size := ⟨_, rfl⟩
  obtain ⟨br, hbr'⟩ : ∃ br, br = bb + 1 := ⟨_, rfl⟩
  have BX : Below w1.heap.size w1 wA := by rw [hwA]; exact (Buf.below_drewN (Below.refl _ _) mq).alloc (Nat.le_refl _) _
  have PO : wA.heap[bo]? = some (.cells #[.int .i64 0, .int .i64 q] 49 (0, 0)) := by rw [hwA, hbo]; exact heap_alloc_new (w1.drewN mq) _
  have hbr : w.heap.size ≤ br := by have := hbb.out; omega
  rw [← hwA, ← hbo]
  rw [← hbr'] at PY'
  have BA := Lib.hid (Buf.then_ B0.out BX)
  have PXA := Lib.hid (hop BX PX'.out)
  have PYA := Lib.hid (hop BX PY'.out)
  have M := Lib.hid (minus_sw (rw_one PO (Int.le_refl 0) (by omega)) (HR.out.keep BA.out).got.rv (by omega) (by omega))
  clear BX PO B0 PX' PY' k0 k1 KA hwA hbo
  refine M.out.mono ?_
  rintro e wS ⟨⟨r, rfl, hS⟩, hb⟩
  obtain ⟨ha, hn, hc, rfl, _⟩ := Sw.form hS
  have BS := Lib.hid (Buf.then_ BA.out hb)
  have PBx := Lib.hid (hop hb PXA.out)
  have PR := Lib.hid (hop hb PYA.out)
  have PB := Lib.hid fun wx (hb : Below wS.heap.size wS wx) => c2 (hop hb PBx.out)
  have RG := Lib.hid fun wx (hb : Below wS.heap.size wS wx) => (HR.out.keep (Buf.then_ BS.out hb)).got
  have RL := Lib.hid fun wx (hb : Below wS.heap.size wS wx) => (HR.out.keep (Buf.then_ BS.out hb)).lost
  have RH := Lib.hid fun wx (hb : Below wS.heap.size wS wx) => hS.keep hb
  clear BA PXA PYA M hS hb HR hbb hwb
  go_upto_region 6 with fail
  rw [← hbr']
  clear hbr'
  have hw0 : Below wS.heap.size wS wS.drew := (Below.refl _ _).drew
  refine wp_region_noPanic ?_
  refine wp_region_any (by kernel_rfl) ?_
  refine Inv.wpAny_inv (fun k => k == 10 || k == 11) [21, 22, 23, 24, 25, 26, 27, 28, 29, 30] (fun w' => Below wS.heap.size wS w') (fun _ w1 w2 => Below w1.heap.size w1 w2) (fun k => ([fun v_ w_ => v_ = .pointer (some ⟨bb, 0, none⟩), fun v_ w_ => v_ = .slice ga gn gc, fun v_ w_ => ∃ a n c, v_ = .slice a n c ∧ Sw w_ (.slice a n c) f 40, fun v_ w_ => v_ = .pointer (some ⟨bb, 1, none⟩), fun v_ w_ => v_ = .slice la ln lc, fun v_ w_ => v_ = .slice ha hn hc, fun v_ w_ => ∃ a n c, v_ = .slice a n c ∧ Sw w_ (.slice a n c) (fun x => g x || (decide (0 ≤ x ∧ x < q) && !f x)) (40 + (40 + 2 * 1)), fun v_ w_ => ∃ a n c a' n' c', v_ = .tuple #[.agg #[.slice a n c, .slice a' n' c'], .int .i64 0] ∧ Sw w_ (.slice a n c) f 40 ∧ Sw w_ (.slice a' n' c') (fun x => g x || (decide (0 ≤ x ∧ x < q) && !f x)) (40 + (40 + 2 * 1)), fun v_ w_ => ∃ a n c a' n' c', v_ = .agg #[.slice a n c, .slice a' n' c'] ∧ Sw w_ (.slice a n c) f 40 ∧ Sw w_ (.slice a' n' c') (fun x => g x || (decide (0 ≤ x ∧ x < q) && !f x)) (40 + (40 + 2 * 1)), fun v_ w_ => v_ = .int .i64 0, fun v_ w_ => True, fun v_ w_ => True] : List (Value → World → Prop)).getD k (fun _ _ => True)) _ (fun σ => by simp only [Inv.putAll, List.foldl_cons, List.foldl_nil, Act.put, List.setIfInBounds_toArray, List.set_cons_zero, List.set_cons_succ]; rfl) (by kernel_rfl) (by kernel_rfl) ?_ hw0 ?_ ?_ 2 #[true, true, true, true, true, true, true, true, true, true, false, false] (by kernel_rfl) (by kernel_rfl) ?_
  · intro j k v w1 w2 hjk hv hr
    rcases k with _ | k
    · exact hv
    rcases k with _ | k
    · exact hv
    rcases k with _ | k
    · exact by obtain ⟨a, n, c, e, h⟩ := hv; exact ⟨a, n, c, e, h.keep hr⟩
    rcases k with _ | k
    · exact hv
    rcases k with _ | k
    · exact hv
    rcases k with _ | k
    · exact hv
    rcases k with _ | k
    · exact by obtain ⟨a, n, c, e, h⟩ := hv; exact ⟨a, n, c, e, h.keep hr⟩
    rcases k with _ | k
    · exact by obtain ⟨a, n, c, a', n', c', e, h, h'⟩ := hv; exact ⟨a, n, c, a', n', c', e, h.keep hr, h'.keep hr⟩
    rcases k with _ | k
    · exact by obtain ⟨a, n, c, a', n', c', e, h, h'⟩ := hv; exact ⟨a, n, c, a', n', c', e, h.keep hr, h'.keep hr⟩
    rcases k with _ | k
    · exact hv
    rcases k with _ | k
    · exact hv
    rcases k with _ | k
    · exact hv
    · exact hv
  · intro k t hl hd
    rcases k with _ | k
    · exact absurd hl (by decide +kernel)
    rcases k with _ | k
    · exact absurd hl (by decide +kernel)
    rcases k with _ | k
    · exact absurd hl (by decide +kernel)
    rcases k with _ | k
    · exact absurd hl (by decide +kernel)
    rcases k with _ | k
    · exact absurd hl (by decide +kernel)
    rcases k with _ | k
    · exact absurd hl (by decide +kernel)
    rcases k with _ | k
    · exact absurd hl (by decide +kernel)
    rcases k with _ | k
    · exact absurd hl (by decide +kernel)
    rcases k with _ | k
    · exact absurd hl (by decide +kernel)
    rcases k with _ | k
    · exact absurd hl (by decide +kernel)
    rcases k with _ | k
    · exact absurd hl (by decide +kernel)
    rcases k with _ | k
    · exact absurd hl (by decide +kernel)
    · simp at hd
  · show Inv.Steps _ _ _ _ _ _ _ _ [0, 1, 2, 3, 4, 5, 6, 7, 8, 9]
    refine Inv.Steps.go (by decide) (by rfl) (fun σ wx hw hd K hK => ?_) ?_
    · simp only [List.getElem_toArray, List.getElem_cons_zero, List.getElem_cons_succ, Act.put, List.setIfInBounds_toArray, List.set_cons_zero, List.set_cons_succ] at hK ⊢
      go_simp
      exact hK.out _ _ hw (Below.refl _ _) (rfl)
    refine Inv.Steps.go (by decide) (by rfl) (fun σ wx hw hd K hK => ?_) ?_
    · obtain e21 : (σ 21) = .pointer (some ⟨bb, 0, none⟩) := hd 0 (some 21) (by kernel_rfl) (by rfl)
      simp only [List.getElem_toArray, List.getElem_cons_zero, List.getElem_cons_succ, Act.put, List.setIfInBounds_toArray, List.set_cons_zero, List.set_cons_succ, e21] at hK ⊢
      obtain ⟨k0, k1_⟩ := PB.out _ hw
      go_simp
      exact hK.out _ _ hw (Below.refl _ _) (rfl)
    refine Inv.Steps.go (by decide) (by rfl) (fun σ wx hw hd K hK => ?_) ?_
    · obtain e22 : (σ 22) = .slice ga gn gc := hd 1 (some 22) (by kernel_rfl) (by rfl)
      simp only [List.getElem_toArray, List.getElem_cons_zero, List.getElem_cons_succ, Act.put, List.setIfInBounds_toArray, List.set_cons_zero, List.set_cons_succ, e22] at hK ⊢
      go_simp
      go_at_call 57
      refine (clone_sw (RG.out _ hw)).mono ?_
      rintro e w1 ⟨⟨r, rfl, hS⟩, hb⟩
      dsimp only
      obtain ⟨ra, rn, rc, rfl, _⟩ := Sw.form hS
      exact hK.out _ _ (Buf.then_ hw hb) hb (⟨_, _, _, rfl, hS⟩)
    refine Inv.Steps.go (by decide) (by rfl) (fun σ wx hw hd K hK => ?_) ?_
    · simp only [List.getElem_toArray, List.getElem_cons_zero, List.getElem_cons_succ, Act.put, List.setIfInBounds_toArray, List.set_cons_zero, List.set_cons_succ] at hK ⊢
      go_simp
      exact hK.out _ _ hw (Below.refl _ _) (rfl)
    refine Inv.Steps.go (by decide) (by rfl) (fun σ wx hw hd K hK => ?_) ?_
    · obtain e24 : (σ 24) = .pointer (some ⟨bb, 1, none⟩) := hd 3 (some 24) (by kernel_rfl) (by rfl)
      simp only [List.getElem_toArray, List.getElem_cons_zero, List.getElem_cons_succ, Act.put, List.setIfInBounds_toArray, List.set_cons_zero, List.set_cons_succ, e24] at hK ⊢
      obtain ⟨k0, k1_⟩ := PB.out _ hw
      go_simp
      exact hK.out _ _ hw (Below.refl _ _) (rfl)
    refine Inv.Steps.go (by decide) (by rfl) (fun σ wx hw hd K hK => ?_) ?_
    · simp only [List.getElem_toArray, List.getElem_cons_zero, List.getElem_cons_succ, Act.put, List.setIfInBounds_toArray, List.set_cons_zero, List.set_cons_succ] at hK ⊢
      go_simp
      exact hK.out _ _ hw (Below.refl _ _) (rfl)
    refine Inv.Steps.go (by decide) (by rfl) (fun σ wx hw hd K hK => ?_) ?_
    · obtain e25 : (σ 25) = .slice la ln lc := hd 4 (some 25) (by kernel_rfl) (by rfl)
      obtain e26 : (σ 26) = .slice ha hn hc := hd 5 (some 26) (by kernel_rfl) (by rfl)
      simp only [List.getElem_toArray, List.getElem_cons_zero, List.getElem_cons_succ, Act.put, List.setIfInBounds_toArray, List.set_cons_zero, List.set_cons_succ, e25, e26] at hK ⊢
      go_simp
      go_at_call 16
      refine (union_sw (RL.out _ hw).rv (RH.out _ hw).rv (by omega) (by omega)).mono ?_
      rintro e w1 ⟨⟨r, rfl, hS⟩, hb⟩
      dsimp only
      obtain ⟨ra, rn, rc, rfl, _⟩ := Sw.form hS
      exact hK.out _ _ (Buf.then_ hw hb) hb (⟨_, _, _, rfl, hS⟩)
    refine Inv.Steps.go (by decide) (by rfl) (fun σ wx hw hd K hK => ?_) ?_
    · obtain ⟨ua, un, uc, e23, S23⟩ : ∃ a n c, (σ 23) = .slice a n c ∧ Sw wx (.slice a n c) f 40 := hd 2 (some 23) (by kernel_rfl) (by rfl)
      obtain ⟨va, vn, vc, e27, S27⟩ : ∃ a n c, (σ 27) = .slice a n c ∧ Sw wx (.slice a n c) (fun x => g x || (decide (0 ≤ x ∧ x < q) && !f x)) (40 + (40 + 2 * 1)) := hd 6 (some 27) (by kernel_rfl) (by rfl)
      simp only [List.getElem_toArray, List.getElem_cons_zero, List.getElem_cons_succ, Act.put, List.setIfInBounds_toArray, List.set_cons_zero, List.set_cons_succ, e23, e27] at hK ⊢
      have n1 := Sw.len S23
      have n2 := Sw.len S27
      go_simp
      go_at_call 65
      refine (limited_any _ _ _ _ _ _ (by omega) (by omega) _).mono ?_
      rintro e w1 ⟨rfl, hb⟩
      dsimp only
      exact hK.out _ _ (Buf.then_ hw hb) hb (⟨_, _, _, _, _, _, rfl, S23.keep hb, S27.keep hb⟩)
    refine Inv.Steps.go (by decide) (by rfl) (fun σ wx hw hd K hK => ?_) ?_
    · obtain ⟨ua, un, uc, va, vn, vc, e28, S23, S27⟩ : ∃ a n c a' n' c', (σ 28) = .tuple #[.agg #[.slice a n c, .slice a' n' c'], .int .i64 0] ∧ Sw wx (.slice a n c) f 40 ∧ Sw wx (.slice a' n' c') (fun x => g x || (decide (0 ≤ x ∧ x < q) && !f x)) (40 + (40 + 2 * 1)) := hd 7 (some 28) (by kernel_rfl) (by rfl)
      simp only [List.getElem_toArray, List.getElem_cons_zero, List.getElem_cons_succ, Act.put, List.setIfInBounds_toArray, List.set_cons_zero, List.set_cons_succ, e28] at hK ⊢
      go_simp
      exact hK.out _ _ hw (Below.refl _ _) (⟨_, _, _, _, _, _, rfl, S23, S27⟩)
    refine Inv.Steps.go (by decide) (by rfl) (fun σ wx hw hd K hK => ?_) ?_
    · obtain ⟨ua, un, uc, va, vn, vc, e28, S23, S27⟩ : ∃ a n c a' n' c', (σ 28) = .tuple #[.agg #[.slice a n c, .slice a' n' c'], .int .i64 0] ∧ Sw wx (.slice a n c) f 40 ∧ Sw wx (.slice a' n' c') (fun x => g x || (decide (0 ≤ x ∧ x < q) && !f x)) (40 + (40 + 2 * 1)) := hd 7 (some 28) (by kernel_rfl) (by rfl)
      simp only [List.getElem_toArray, List.getElem_cons_zero, List.getElem_cons_succ, Act.put, List.setIfInBounds_toArray, List.set_cons_zero, List.set_cons_succ, e28] at hK ⊢
      go_simp
      exact hK.out _ _ hw (Below.refl _ _) (rfl)
    exact Inv.Steps.nil
  · intro σ wx hw hd
    obtain ⟨ua, un, uc, va, vn, vc, e29, S23, S27⟩ : ∃ a n c a' n' c', (σ 29) = .agg #[.slice a n c, .slice a' n' c'] ∧ Sw wx (.slice a n c) f 40 ∧ Sw wx (.slice a' n' c') (fun x => g x || (decide (0 ≤ x ∧ x < q) && !f x)) (40 + (40 + 2 * 1)) := hd 8 (some 29) (by rfl) (by rfl)
    obtain e30 : (σ 30) = .int .i64 0 := hd 9 (some 30) (by rfl) (by rfl)
    simp only [e29, e30]
    have P4 := hop hw PR.out
    obtain ⟨k0, k1_⟩ := c2 P4
    have f0 := frozen_of_row wx br 0 _ _ P4
    have f1 := frozen_of_row wx br 1 _ _ P4
    refine Inv.one (i := 10) (by decide) (by kernel_rfl) (by rfl) (fun K hK => ?_)
    simp only [List.getElem_toArray, List.getElem_cons_zero, List.getElem_cons_succ, Act.put, List.setIfInBounds_toArray, List.set_cons_zero, List.set_cons_succ] at hK ⊢
    go_simp
    refine hK.out _ _ ?_
    clear hK K
    refine Inv.take (i := 11) (v := .int .i64 0) (by decide) rfl (by kernel_rfl) (by kernel_rfl) (by kernel_rfl) (fun _ _ _ h => h) (by rfl) (fun w' => ?_) ?_
    · simp only [List.getElem_toArray, List.getElem_cons_zero, List.getElem_cons_succ]
      go_simp
    try simp only [Act.put, List.setIfInBounds_toArray, List.set_cons_zero, List.set_cons_succ]
    refine Inv.done (by kernel_rfl) (NoPanic.normal ?_)
    have Q4 := (heap_setCell_same wx br 0 _ _ (.slice ua un uc) P4).trans rfl
    have Z4 := (heap_setCell_same (wx.setCell ⟨br, 0, none⟩ (.slice ua un uc)) br 1 _ _ (.slice va vn vc) Q4).trans rfl
    have RR := Lib.hid (show Rd _ _ _ _ _ from ⟨Sw.short (Sw.set (Sw.set S23 P4 (o := 0) (.slice ua un uc)) Q4 (o := 1) (.slice va vn vc)) (by omega), Sw.short (Sw.set (Sw.set S27 P4 (o := 0) (.slice ua un uc)) Q4 (o := 1) (.slice va vn vc)) (by omega), AP2.out⟩)
    have BQ := Lib.hid (((BS.out.trans (hw.mono BS.out.size)).setCell (p := ⟨br, 0, none⟩) hbr (.slice ua un uc)).setCell (p := ⟨br, 1, none⟩) hbr (.slice va vn vc))
    clear k0 k1_ f0 f1 P4 Q4 hd hw e29 S23 S27
    generalize (wx.setCell ⟨br, 0, none⟩ (.slice ua un uc)).setCell ⟨br, 1, none⟩ (.slice va vn vc) = wU at *
    obtain ⟨k0, k1_⟩ := c2 Z4
    clear Z4
    go_wp2_with fail
    refine bodyPost_ret (v := .tuple #[.agg #[.slice ua un uc, .slice va vn vc], .int .i64 0]) (by simp [results, Try.results41, go_sem, k0, k1_]) rfl ⟨⟨_, _, rfl, RR.out⟩, BQ.out⟩
end Rx
end Go.Proofs.Ytfmhfhggogjbkaa

/- receiver.Missing and Settled for any lists. -/
set_option linter.unusedVariables false
set_option linter.unusedSimpArgs false
namespace Go.Proofs.Ytfmhfhggogjbkaa
open Go.RowKit Dice Wi
namespace Rx
open Spn
open Sp (cells2 cells2_snoc cells2_get Spans own_kept own_below own_mono own_shape)
def EndP (f : Int → Bool) (t : Int) : Prop := 0 ≤ t ∧ t ≤ 1073741825 ∧ (∀ x, f x = true → x < t) ∧ (t = 0 ∨ f (t - 1) = true)
/-- The greatest of a number and of what lies behind both sets. -/
def TopP (f g : Int → Bool) (q t : Int) : Prop := q ≤ t ∧ 0 ≤ t ∧ t ≤ 1073741825 ∧ (∀ x, f x = true → x < t) ∧ (∀ x, g x = true → x < t) ∧ (t = q ∨ t = 0 ∨ f (t - 1) = true ∨ g (t - 1) = true)
theorem top_max {f g : Int → Bool} {q a b : Int} (h1 : EndP f a) (h2 : EndP g b) (q0 : 0 ≤ q) (q9 : q ≤ 1073741825) : TopP f g q (max q (max a b)) := by
  obtain ⟨a1, a2, a3, a4⟩ := h1
  obtain ⟨b1, b2, b3, b4⟩ := h2
  refine ⟨by omega, by omega, by omega, fun x hx => by have := a3 x hx; omega, fun x hx => by have := b3 x hx; omega, ?_⟩
  rcases (show max q (max a b) = q ∨ max q (max a b) = a ∨ max q (max a b) = b by omega) with e | e | e
  · exact .inl e
  · rw [e]; rcases a4 with h | h
    · exact .inr (.inl h)
    · exact .inr (.inr (.inl h))
  · rw [e]; rcases b4 with h | h
    · exact .inr (.inl h)
    · exact .inr (.inr (.inr h))
/-- What Missing returns. -/
def Mis (f g : Int → Bool) (q : Int) (w : World) (e : Ending) : Prop := ∃ v t, e = .returned (.tuple #[v, .int .i64 0]) ∧ TopP f g q t ∧ Sw w v (fun x => (decide (0 ≤ x ∧ x < t) && !f x) && !g x) (40 + 2 * (40 + 2 * 1))
set_option maxHeartbeats 8000000 in
set_option maxRecDepth 100000 in
theorem missing_any {w : World} {vg vl : Value} {f g : Int → Bool} (h : Rc w vg vl f g) (q : Int) (q0 : 0 ≤ q) (q9 : q ≤ 1073741825) :
    Calls Try.prog 44 #[.agg #[vg, vl], .int .i64 q] w fun e w' => Mis f g q w' e ∧ Below w.heap.size w w' := by
  obtain ⟨ga, gn, gc, rfl, _⟩ := Sw.form h.got
  obtain ⟨la, ln, lc, rfl, _⟩ := Sw.form h.lost
  have HR := Lib.hid h
  clear h
  go_enter Try.func44, Try.ntmps44
  obtain ⟨bb, hbb⟩ : ∃ bb, bb = w.heap.size := ⟨_, rfl⟩
  obtain ⟨wb, hwb⟩ : ∃ wb, wb = w.alloc (.cells #[.slice ga gn gc, .slice la ln lc] 46) := ⟨_, rfl⟩
  have B0 := Lib.hid (show Below w.heap.size w wb by rw [hwb]; exact new_block _)
  have PX : wb.heap[bb]? = some (.cells #[.slice ga gn gc, .slice la ln lc] 46 (0, 0)) := by rw [hwb, hbb]; exact heap_alloc_new w _
  obtain ⟨k0, k1⟩ := c2 PX
  have V := Lib.hid (valid_any (HR.out.keep B0.out))
  have PX' := Lib.hid PX
  clear PX
  go_wp2_with fail
  rw [← hwb, ← hbb]
  refine V.out.mono ?_
  rintro e w1 ⟨rfl, hb⟩
  clear k0 k1 V
  replace PX' := Lib.hid (hop hb PX'.out)
  replace B0 := Lib.hid (Buf.then_ B0.out hb)
  clear hb
  replace hwb := Lib.hid hwb
  replace hbb := Lib.hid hbb
  go_upto_region 5 with (go_at_call 64; refine (within_yes _ _ _ _ (by omega) (by omega)).mono ?_; rintro e w' ⟨rfl, mq, rfl⟩)
  obtain ⟨wS, hwS⟩ : ∃ wS, wS = w1.drewN mq := ⟨_, rfl⟩
  have BX : Below w1.heap.size w1 wS := by rw [hwS]; exact Buf.below_drewN (Below.refl _ _) mq
  rw [← hwS]
  have BS := Lib.hid (Buf.then_ B0.out BX)
  have PBx := Lib.hid (hop BX PX'.out)
  have PB := Lib.hid fun wx (hb : Below wS.heap.size wS wx) => c2 (hop hb PBx.out)
  have RG := Lib.hid fun wx (hb : Below wS.heap.size wS wx) => (HR.out.keep (Buf.then_ BS.out hb)).got
  have RL := Lib.hid fun wx (hb : Below wS.heap.size wS wx) => (HR.out.keep (Buf.then_ BS.out hb)).lost
  clear BX B0 PX' HR hwS hbb hwb
  have hw0 : Below wS.heap.size wS wS.drew := (Below.refl _ _).drew
  refine wp_region_noPanic ?_
  refine wp_region_any (by kernel_rfl) ?_
  refine Inv.wpAny_inv (fun k => k == 10) [13, 14, 15, 16, 17, 18, 19, 20, 21, 22] (fun w' => Below wS.heap.size wS w') (fun _ w1 w2 => Below w1.heap.size w1 w2) (fun k => ([fun v_ w_ => v_ = .int .i64 q, fun v_ w_ => v_ = .pointer (some ⟨bb, 0, none⟩), fun v_ w_ => v_ = .slice ga gn gc, fun v_ w_ => ∃ t : Int, v_ = .int .i64 t ∧ EndP f t, fun v_ w_ => v_ = .pointer (some ⟨bb, 1, none⟩), fun v_ w_ => v_ = .slice la ln lc, fun v_ w_ => ∃ t : Int, v_ = .int .i64 t ∧ EndP g t, fun v_ w_ => ∃ t : Int, v_ = .int .i64 t ∧ TopP f g q t, fun v_ w_ => ∃ t : Int, v_ = .agg #[.int .i64 0, .int .i64 t] ∧ TopP f g q t, fun v_ w_ => ∃ (h : Nat) (t : Int), v_ = .slice (some ⟨h, 0, none⟩) 1 1 ∧ TopP f g q t ∧ w_.heap[h]? = some (.cells #[.int .i64 0, .int .i64 t] 49 (0, 0)), fun v_ w_ => True] : List (Value → World → Prop)).getD k (fun _ _ => True)) _ (fun σ => by simp only [Inv.putAll, List.foldl_cons, List.foldl_nil, Act.put, List.setIfInBounds_toArray, List.set_cons_zero, List.set_cons_succ]; rfl) (by kernel_rfl) (by kernel_rfl) ?_ hw0 ?_ ?_ 1 #[true, true, true, true, true, true, true, true, true, true, false] (by kernel_rfl) (by kernel_rfl) ?_
  · intro j k v w1 w2 hjk hv hr
    rcases k with _ | k
    · exact hv
    rcases k with _ | k
    · exact hv
    rcases k with _ | k
    · exact hv
    rcases k with _ | k
    · exact hv
    rcases k with _ | k
    · exact hv
    rcases k with _ | k
    · exact hv
    rcases k with _ | k
    · exact hv
    rcases k with _ | k
    · exact hv
    rcases k with _ | k
    · exact hv
    rcases k with _ | k
    · exact by obtain ⟨h, t, e, h1, h2⟩ := hv; exact ⟨h, t, e, h1, hop hr h2⟩
    rcases k with _ | k
    · exact hv
    · exact hv
  · intro k t hl hd
    rcases k with _ | k
    · exact absurd hl (by decide +kernel)
    rcases k with _ | k
    · exact absurd hl (by decide +kernel)
    rcases k with _ | k
    · exact absurd hl (by decide +kernel)
    rcases k with _ | k
    · exact absurd hl (by decide +kernel)
    rcases k with _ | k
    · exact absurd hl (by decide +kernel)
    rcases k with _ | k
    · exact absurd hl (by decide +kernel)
    rcases k with _ | k
    · exact absurd hl (by decide +kernel)
    rcases k with _ | k
    · exact absurd hl (by decide +kernel)
    rcases k with _ | k
    · exact absurd hl (by decide +kernel)
    rcases k with _ | k
    · exact absurd hl (by decide +kernel)
    rcases k with _ | k
    · exact absurd hl (by decide +kernel)
    · simp at hd
  · show Inv.Steps _ _ _ _ _ _ _ _ [0, 1, 2, 3, 4, 5, 6, 7, 8, 9]
    refine Inv.Steps.go (by decide) (by rfl) (fun σ wx hw hd K hK => ?_) ?_
    · simp only [List.getElem_toArray, List.getElem_cons_zero, List.getElem_cons_succ, Act.put, List.setIfInBounds_toArray, List.set_cons_zero, List.set_cons_succ] at hK ⊢
      go_simp
      exact hK.out _ _ hw (Below.refl _ _) (rfl)
    refine Inv.Steps.go (by decide) (by rfl) (fun σ wx hw hd K hK => ?_) ?_
    · simp only [List.getElem_toArray, List.getElem_cons_zero, List.getElem_cons_succ, Act.put, List.setIfInBounds_toArray, List.set_cons_zero, List.set_cons_succ] at hK ⊢
      go_simp
      exact hK.out _ _ hw (Below.refl _ _) (rfl)
    refine Inv.Steps.go (by decide) (by rfl) (fun σ wx hw hd K hK => ?_) ?_
    · obtain e14 : (σ 14) = .pointer (some ⟨bb, 0, none⟩) := hd 1 (some 14) (by kernel_rfl) (by rfl)
      simp only [List.getElem_toArray, List.getElem_cons_zero, List.getElem_cons_succ, Act.put, List.setIfInBounds_toArray, List.set_cons_zero, List.set_cons_succ, e14] at hK ⊢
      obtain ⟨k0, k1_⟩ := PB.out _ hw
      go_simp
      exact hK.out _ _ hw (Below.refl _ _) (rfl)
    refine Inv.Steps.go (by decide) (by rfl) (fun σ wx hw hd K hK => ?_) ?_
    · obtain e15 : (σ 15) = .slice ga gn gc := hd 2 (some 15) (by kernel_rfl) (by rfl)
      simp only [List.getElem_toArray, List.getElem_cons_zero, List.getElem_cons_succ, Act.put, List.setIfInBounds_toArray, List.set_cons_zero, List.set_cons_succ, e15] at hK ⊢
      go_simp
      go_at_call 67
      refine (end_any (by omega) (RG.out _ hw)).mono ?_
      rintro e w1 ⟨⟨t, rfl, a1, a2, a3, a4⟩, hq⟩
      dsimp only
      replace hq := hq.symm
      subst hq
      exact hK.out _ _ hw (Below.refl _ _) (⟨t, rfl, a1, a2, a3, a4⟩)
    refine Inv.Steps.go (by decide) (by rfl) (fun σ wx hw hd K hK => ?_) ?_
    · simp only [List.getElem_toArray, List.getElem_cons_zero, List.getElem_cons_succ, Act.put, List.setIfInBounds_toArray, List.set_cons_zero, List.set_cons_succ] at hK ⊢
      go_simp
      exact hK.out _ _ hw (Below.refl _ _) (rfl)
    refine Inv.Steps.go (by decide) (by rfl) (fun σ wx hw hd K hK => ?_) ?_
    · obtain e17 : (σ 17) = .pointer (some ⟨bb, 1, none⟩) := hd 4 (some 17) (by kernel_rfl) (by rfl)
      simp only [List.getElem_toArray, List.getElem_cons_zero, List.getElem_cons_succ, Act.put, List.setIfInBounds_toArray, List.set_cons_zero, List.set_cons_succ, e17] at hK ⊢
      obtain ⟨k0, k1_⟩ := PB.out _ hw
      go_simp
      exact hK.out _ _ hw (Below.refl _ _) (rfl)
    refine Inv.Steps.go (by decide) (by rfl) (fun σ wx hw hd K hK => ?_) ?_
    · obtain e18 : (σ 18) = .slice la ln lc := hd 5 (some 18) (by kernel_rfl) (by rfl)
      simp only [List.getElem_toArray, List.getElem_cons_zero, List.getElem_cons_succ, Act.put, List.setIfInBounds_toArray, List.set_cons_zero, List.set_cons_succ, e18] at hK ⊢
      go_simp
      go_at_call 67
      refine (end_any (by omega) (RL.out _ hw)).mono ?_
      rintro e w1 ⟨⟨t, rfl, a1, a2, a3, a4⟩, hq⟩
      dsimp only
      replace hq := hq.symm
      subst hq
      exact hK.out _ _ hw (Below.refl _ _) (⟨t, rfl, a1, a2, a3, a4⟩)
    refine Inv.Steps.go (by decide) (by rfl) (fun σ wx hw hd K hK => ?_) ?_
    · obtain e13 : (σ 13) = .int .i64 q := hd 0 (some 13) (by kernel_rfl) (by rfl)
      obtain ⟨t1, e16, E1⟩ : ∃ t : Int, (σ 16) = .int .i64 t ∧ EndP f t := hd 3 (some 16) (by kernel_rfl) (by rfl)
      obtain ⟨t2, e19, E2⟩ : ∃ t : Int, (σ 19) = .int .i64 t ∧ EndP g t := hd 6 (some 19) (by kernel_rfl) (by rfl)
      simp only [List.getElem_toArray, List.getElem_cons_zero, List.getElem_cons_succ, Act.put, List.setIfInBounds_toArray, List.set_cons_zero, List.set_cons_succ, e13, e16, e19] at hK ⊢
      go_simp
      exact hK.out _ _ hw (Below.refl _ _) (⟨_, rfl, top_max E1 E2 q0 q9⟩)
    refine Inv.Steps.go (by decide) (by rfl) (fun σ wx hw hd K hK => ?_) ?_
    · obtain ⟨t3, e20, E3⟩ : ∃ t : Int, (σ 20) = .int .i64 t ∧ TopP f g q t := hd 7 (some 20) (by kernel_rfl) (by rfl)
      simp only [List.getElem_toArray, List.getElem_cons_zero, List.getElem_cons_succ, Act.put, List.setIfInBounds_toArray, List.set_cons_zero, List.set_cons_succ, e20] at hK ⊢
      go_simp
      exact hK.out _ _ hw (Below.refl _ _) (⟨_, rfl, E3⟩)
    refine Inv.Steps.go (by decide) (by rfl) (fun σ wx hw hd K hK => ?_) ?_
    · obtain ⟨t4, e21, E4⟩ : ∃ t : Int, (σ 21) = .agg #[.int .i64 0, .int .i64 t] ∧ TopP f g q t := hd 8 (some 21) (by kernel_rfl) (by rfl)
      simp only [List.getElem_toArray, List.getElem_cons_zero, List.getElem_cons_succ, Act.put, List.setIfInBounds_toArray, List.set_cons_zero, List.set_cons_succ, e21] at hK ⊢
      go_simp
      exact hK.out _ _ (Buf.then_ hw (new_block _)) (new_block _) (⟨_, _, rfl, E4, heap_alloc_new _ _⟩)
    exact Inv.Steps.nil
  · intro σ wx hw hd
    obtain ⟨h, t, e22, E5, P22⟩ : ∃ (h : Nat) (t : Int), (σ 22) = .slice (some ⟨h, 0, none⟩) 1 1 ∧ TopP f g q t ∧ wx.heap[h]? = some (.cells #[.int .i64 0, .int .i64 t] 49 (0, 0)) := hd 9 (some 22) (by rfl) (by rfl)
    simp only [e22]
    refine Inv.one (i := 10) (by decide) (by kernel_rfl) (by rfl) (fun K hK => ?_)
    simp only [List.getElem_toArray, List.getElem_cons_zero, List.getElem_cons_succ, Act.put, List.setIfInBounds_toArray, List.set_cons_zero, List.set_cons_succ] at hK ⊢
    go_simp
    refine hK.out _ _ ?_
    clear hK K
    refine Inv.done (by kernel_rfl) (NoPanic.normal ?_)
    have PT := Lib.hid P22
    have BT := Lib.hid hw
    obtain ⟨_, _, t9, _⟩ := id E5
    clear P22 hw hd e22
    obtain ⟨wT, hwT⟩ : ∃ wT, wT = wx := ⟨_, rfl⟩
    rw [← hwT] at PT BT ⊢
    replace hwT := Lib.hid hwT
    go_upto_region 6 with fail
    have hw0 : Below wT.heap.size wT wT.drew := (Below.refl _ _).drew
    refine wp_region_noPanic ?_
    refine wp_region_any (by kernel_rfl) ?_
    refine Inv.wpAny_inv (fun k => k == 7 || k == 8) [23, 24, 25, 26, 27, 28, 29] (fun w' => Below wT.heap.size wT w') (fun _ w1 w2 => Below w1.heap.size w1 w2) (fun k => ([fun v_ w_ => v_ = .slice (some ⟨h, 0, none⟩) 1 1, fun v_ w_ => v_ = .pointer (some ⟨bb, 0, none⟩), fun v_ w_ => v_ = .slice ga gn gc, fun v_ w_ => ∃ a n c, v_ = .slice a n c ∧ Sw w_ (.slice a n c) (fun x => decide (0 ≤ x ∧ x < t) && !f x) (40 + 2 * 1), fun v_ w_ => v_ = .pointer (some ⟨bb, 1, none⟩), fun v_ w_ => v_ = .slice la ln lc, fun v_ w_ => ∃ a n c, v_ = .slice a n c ∧ Sw w_ (.slice a n c) (fun x => (decide (0 ≤ x ∧ x < t) && !f x) && !g x) (40 + 2 * (40 + 2 * 1)), fun v_ w_ => True, fun v_ w_ => True] : List (Value → World → Prop)).getD k (fun _ _ => True)) _ (fun σ => by simp only [Inv.putAll, List.foldl_cons, List.foldl_nil, Act.put, List.setIfInBounds_toArray, List.set_cons_zero, List.set_cons_succ]; rfl) (by kernel_rfl) (by kernel_rfl) ?_ hw0 ?_ ?_ 2 #[true, true, true, true, true, true, true, false, false] (by kernel_rfl) (by kernel_rfl) ?_
    · intro j k v w1 w2 hjk hv hr
      rcases k with _ | k
      · exact hv
      rcases k with _ | k
      · exact hv
      rcases k with _ | k
      · exact hv
      rcases k with _ | k
      · exact by obtain ⟨a, n, c, e, h⟩ := hv; exact ⟨a, n, c, e, h.keep hr⟩
      rcases k with _ | k
      · exact hv
      rcases k with _ | k
      · exact hv
      rcases k with _ | k
      · exact by obtain ⟨a, n, c, e, h⟩ := hv; exact ⟨a, n, c, e, h.keep hr⟩
      rcases k with _ | k
      · exact hv
      rcases k with _ | k
      · exact hv
      · exact hv
    · intro k t hl hd
      rcases k with _ | k
      · exact absurd hl (by decide +kernel)
      rcases k with _ | k
      · exact absurd hl (by decide +kernel)
      rcases k with _ | k
      · exact absurd hl (by decide +kernel)
      rcases k with _ | k
      · exact absurd hl (by decide +kernel)
      rcases k with _ | k
      · exact absurd hl (by decide +kernel)
      rcases k with _ | k
      · exact absurd hl (by decide +kernel)
      rcases k with _ | k
      · exact absurd hl (by decide +kernel)
      rcases k with _ | k
      · exact absurd hl (by decide +kernel)
      rcases k with _ | k
      · exact absurd hl (by decide +kernel)
      · simp at hd
    · show Inv.Steps _ _ _ _ _ _ _ _ [0, 1, 2, 3, 4, 5, 6]
      refine Inv.Steps.go (by decide) (by rfl) (fun σ wx hw hd K hK => ?_) ?_
      · simp only [List.getElem_toArray, List.getElem_cons_zero, List.getElem_cons_succ, Act.put, List.setIfInBounds_toArray, List.set_cons_zero, List.set_cons_succ] at hK ⊢
        go_simp
        exact hK.out _ _ hw (Below.refl _ _) (rfl)
      refine Inv.Steps.go (by decide) (by rfl) (fun σ wx hw hd K hK => ?_) ?_
      · simp only [List.getElem_toArray, List.getElem_cons_zero, List.getElem_cons_succ, Act.put, List.setIfInBounds_toArray, List.set_cons_zero, List.set_cons_succ] at hK ⊢
        go_simp
        exact hK.out _ _ hw (Below.refl _ _) (rfl)
      refine Inv.Steps.go (by decide) (by rfl) (fun σ wx hw hd K hK => ?_) ?_
      · obtain e24 : (σ 24) = .pointer (some ⟨bb, 0, none⟩) := hd 1 (some 24) (by kernel_rfl) (by rfl)
        simp only [List.getElem_toArray, List.getElem_cons_zero, List.getElem_cons_succ, Act.put, List.setIfInBounds_toArray, List.set_cons_zero, List.set_cons_succ, e24] at hK ⊢
        obtain ⟨k0, k1_⟩ := PB.out _ (Buf.then_ BT.out hw)
        go_simp
        exact hK.out _ _ hw (Below.refl _ _) (rfl)
      refine Inv.Steps.go (by decide) (by rfl) (fun σ wx hw hd K hK => ?_) ?_
      · obtain e23 : (σ 23) = .slice (some ⟨h, 0, none⟩) 1 1 := hd 0 (some 23) (by kernel_rfl) (by rfl)
        obtain e25 : (σ 25) = .slice ga gn gc := hd 2 (some 25) (by kernel_rfl) (by rfl)
        simp only [List.getElem_toArray, List.getElem_cons_zero, List.getElem_cons_succ, Act.put, List.setIfInBounds_toArray, List.set_cons_zero, List.set_cons_succ, e23, e25] at hK ⊢
        go_simp
        go_at_call 20
        refine (minus_sw (rw_one (hop hw PT.out) (Int.le_refl 0) (by omega)) (RG.out _ (Buf.then_ BT.out hw)).rv (by omega) (by omega)).mono ?_
        rintro e w1 ⟨⟨r, rfl, hS⟩, hb⟩
        dsimp only
        obtain ⟨ra, rn, rc, rfl, _⟩ := Sw.form hS
        exact hK.out _ _ (Buf.then_ hw hb) hb (⟨_, _, _, rfl, hS⟩)
      refine Inv.Steps.go (by decide) (by rfl) (fun σ wx hw hd K hK => ?_) ?_
      · simp only [List.getElem_toArray, List.getElem_cons_zero, List.getElem_cons_succ, Act.put, List.setIfInBounds_toArray, List.set_cons_zero, List.set_cons_succ] at hK ⊢
        go_simp
        exact hK.out _ _ hw (Below.refl _ _) (rfl)
      refine Inv.Steps.go (by decide) (by rfl) (fun σ wx hw hd K hK => ?_) ?_
      · obtain e27 : (σ 27) = .pointer (some ⟨bb, 1, none⟩) := hd 4 (some 27) (by kernel_rfl) (by rfl)
        simp only [List.getElem_toArray, List.getElem_cons_zero, List.getElem_cons_succ, Act.put, List.setIfInBounds_toArray, List.set_cons_zero, List.set_cons_succ, e27] at hK ⊢
        obtain ⟨k0, k1_⟩ := PB.out _ (Buf.then_ BT.out hw)
        go_simp
        exact hK.out _ _ hw (Below.refl _ _) (rfl)
      refine Inv.Steps.go (by decide) (by rfl) (fun σ wx hw hd K hK => ?_) ?_
      · obtain ⟨ua, un, uc, e26, S26⟩ : ∃ a n c, (σ 26) = .slice a n c ∧ Sw wx (.slice a n c) (fun x => decide (0 ≤ x ∧ x < t) && !f x) (40 + 2 * 1) := hd 3 (some 26) (by kernel_rfl) (by rfl)
        obtain e28 : (σ 28) = .slice la ln lc := hd 5 (some 28) (by kernel_rfl) (by rfl)
        simp only [List.getElem_toArray, List.getElem_cons_zero, List.getElem_cons_succ, Act.put, List.setIfInBounds_toArray, List.set_cons_zero, List.set_cons_succ, e26, e28] at hK ⊢
        go_simp
        go_at_call 20
        refine (minus_sw S26.rv (RL.out _ (Buf.then_ BT.out hw)).rv (by omega) (by omega)).mono ?_
        rintro e w1 ⟨⟨r, rfl, hS⟩, hb⟩
        dsimp only
        obtain ⟨ra, rn, rc, rfl, _⟩ := Sw.form hS
        exact hK.out _ _ (Buf.then_ hw hb) hb (⟨_, _, _, rfl, hS⟩)
      exact Inv.Steps.nil
    · intro σ wx hw hd
      obtain ⟨va, vn, vc, e29, S29⟩ : ∃ a n c, (σ 29) = .slice a n c ∧ Sw wx (.slice a n c) (fun x => (decide (0 ≤ x ∧ x < t) && !f x) && !g x) (40 + 2 * (40 + 2 * 1)) := hd 6 (some 29) (by rfl) (by rfl)
      simp only [e29]
      refine Inv.one (i := 7) (by decide) (by kernel_rfl) (by rfl) (fun K hK => ?_)
      simp only [List.getElem_toArray, List.getElem_cons_zero, List.getElem_cons_succ, Act.put, List.setIfInBounds_toArray, List.set_cons_zero, List.set_cons_succ] at hK ⊢
      go_simp
      refine hK.out _ _ ?_
      clear hK K
      refine Inv.take (i := 8) (v := .int .i64 0) (by decide) rfl (by kernel_rfl) (by kernel_rfl) (by kernel_rfl) (fun _ _ _ h => h) (by rfl) (fun w' => ?_) ?_
      · simp only [List.getElem_toArray, List.getElem_cons_zero, List.getElem_cons_succ]
        go_simp
      try simp only [Act.put, List.setIfInBounds_toArray, List.set_cons_zero, List.set_cons_succ]
      refine Inv.done (by kernel_rfl) (NoPanic.normal ?_)
      go_wp2_with fail
      go_ret2
      exact ⟨⟨_, t, rfl, E5, S29⟩, Buf.then_ BS.out (Buf.then_ BT.out hw)⟩
/-- The least number that is in neither set. -/
def SetP (f g : Int → Bool) (s : Int) : Prop := 0 ≤ s ∧ s ≤ 1073741825 ∧ (∀ x, 0 ≤ x → x < s → (f x || g x) = true) ∧ (f s || g s) = false
set_option maxHeartbeats 4000000 in
theorem settled_any {w : World} {vg vl : Value} {f g : Int → Bool} (h : Rc w vg vl f g) :
    Calls Try.prog 52 #[.agg #[vg, vl]] w fun e w' => (∃ s, e = .returned (.int .i64 s) ∧ SetP f g s) ∧ Below w.heap.size w w' := by
  obtain ⟨ga, gn, gc, rfl, _⟩ := Sw.form h.got
  obtain ⟨la, ln, lc, rfl, _⟩ := Sw.form h.lost
  have HR := Lib.hid h
  clear h
  go_enter Try.func52, Try.ntmps52
  obtain ⟨bb, hbb⟩ : ∃ bb, bb = w.heap.size := ⟨_, rfl⟩
  obtain ⟨wb, hwb⟩ : ∃ wb, wb = w.alloc (.cells #[.slice ga gn gc, .slice la ln lc] 46) := ⟨_, rfl⟩
  have B0 := Lib.hid (show Below w.heap.size w wb by rw [hwb]; exact new_block _)
  have PX : wb.heap[bb]? = some (.cells #[.slice ga gn gc, .slice la ln lc] 46 (0, 0)) := by rw [hwb, hbb]; exact heap_alloc_new w _
  obtain ⟨k0, k1⟩ := c2 PX
  have V := Lib.hid (valid_any (HR.out.keep B0.out))
  have PX' := Lib.hid PX
  clear PX
  go_wp2_with fail
  rw [← hwb, ← hbb]
  refine V.out.mono ?_
  rintro e w1 ⟨rfl, hb⟩
  clear k0 k1 V
  replace PX' := Lib.hid (hop hb PX'.out)
  replace B0 := Lib.hid (Buf.then_ B0.out hb)
  clear hb
  replace hwb := Lib.hid hwb
  replace hbb := Lib.hid hbb
  obtain ⟨k0, k1⟩ := c2 PX'.out
  have U := Lib.hid (union_sw (HR.out.keep B0.out).got.rv (HR.out.keep B0.out).lost.rv (by omega) (by omega))
  go_wp2_with fail
  refine U.out.mono ?_
  rintro e w2 ⟨⟨r, rfl, hS⟩, hb⟩
  clear k0 k1 U
  replace B0 := Lib.hid (Buf.then_ B0.out hb)
  clear hb
  rcases Sw.parts hS with ⟨⟨ad, c, rfl⟩, hf⟩ | ⟨gb, ob, c, n, f0, t0, f1, t1, rfl, hc, hg, hn, c0, c1, d0, d1, b1, b2, b3, b4, b5, b6, e1, e2, e3, e4, e5⟩
  · have HF := Lib.hid hf
    clear hf hS
    go_wp2_with fail
    go_ret
    exact ⟨⟨0, rfl, by omega, by omega, fun x h1 h2 => by omega, HF.out 0⟩, B0.out⟩
  · clear d0 d1 hS
    have E3 := Lib.hid e3
    have E4 := Lib.hid e4
    have E5 := Lib.hid e5
    clear e1 e2 e3 e4 e5
    have eq0 : ((n : Int) + 1 == 0) = false := by simp; omega
    have hc0 : 0 < c := by omega
    have hn0 : 0 < n + 1 := by omega
    by_cases hf0 : f0 = 0
    · subst hf0
      go_wp2_with fail
      go_ret
      exact ⟨⟨t0, rfl, by omega, by omega, fun x h1 h2 => E4.out x h1 h2, E5.out⟩, B0.out⟩
    · have hp : 0 < f0 := by omega
      go_wp2_with fail
      go_ret
      exact ⟨⟨0, rfl, by omega, by omega, fun x h1 h2 => by omega, E3.out 0 hp⟩, B0.out⟩
end Rx
end Go.Proofs.Ytfmhfhggogjbkaa
