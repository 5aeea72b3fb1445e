/- The closure of DetectorTriggers. -/
import Derived.Test.YtbmcmiggifknfaaDoorDetS
import Derived.Test.YtbmcmiggifknfaaDoorDetT
import Derived.Test.YtbmcmiggifknfaaDoorDetV
set_option linter.unusedVariables false
set_option linter.unusedSimpArgs false
namespace Go.Proofs.YtbmcmiggifknfaaDoor
open Go.RowKit Wi Dice
namespace Det
set_option maxHeartbeats 4000000 in
set_option maxRecDepth 100000 in
theorem reach_any {w : World} {S L ps pl pd : Nat} {ON OFF sh lo p : Int} (h : DG ⟨S, L, ON, OFF⟩) (KD : w.heap[pd]? = some (.cells #[.int .i64 S, .int .i64 L, .int .i64 ON, .int .i64 OFF] 28 (0, 0)))
    (KS : w.cell? ⟨ps, 0, none⟩ = some (.int .i64 sh)) (KL : w.cell? ⟨pl, 0, none⟩ = some (.int .i64 lo)) (s0 : 0 ≤ sh) (s9 : sh ≤ 1099511627776) (l0 : 0 ≤ lo) (l9 : lo ≤ 1099511627776) (p0 : 1 ≤ p) (p9 : p ≤ 10000) :
    Calls Tryd.prog 21 #[.int .i64 p, .pointer (some ⟨pl, 0, none⟩), .pointer (some ⟨ps, 0, none⟩), .pointer (some ⟨pd, 0, none⟩)] w fun e w' => e = .returned (.bool (rch S L sh lo p)) ∧ ∃ m, w' = w.drewN m := by
  obtain ⟨s1, sl, ll9, f1, fo, o9⟩ := h
  simp only at s1 sl ll9 f1 fo o9
  obtain ⟨q0, q1, q2, q3⟩ := c4 KD
  clear KD
  have a1 : 0 ≤ 100 * sh ∧ 100 * sh ≤ 109951162777600 := by omega
  have a0 : 0 ≤ 100 * sh * (L : Int) := Int.mul_nonneg (by omega) (by omega)
  have a9 : 100 * sh * (L : Int) ≤ 109951162777600 * 512 := Int.mul_le_mul (by omega) (by omega) (by omega) (by omega)
  have b0 : 0 ≤ p * lo := Int.mul_nonneg (by omega) (by omega)
  have b9 : p * lo ≤ 10000 * 1099511627776 := Int.mul_le_mul p9 (by omega) (by omega) (by omega)
  have c0 : 0 ≤ p * lo * (S : Int) := Int.mul_nonneg b0 (by omega)
  have c9 : p * lo * (S : Int) ≤ 10995116277760000 * 512 := Int.mul_le_mul (by omega) (by omega) (by omega) (by omega)
  have e1 : 100 * (L : Int) * sh = 100 * sh * (L : Int) := by grind
  have e2 : p * (S : Int) * lo = p * lo * (S : Int) := by grind
  by_cases hz : lo = 0
  · subst hz
    have hr : rch S L sh 0 p = false := by simp [rch]
    rw [hr]
    clear a0 a9 b0 b9 c0 c9 hr e1 e2
    go_enter Tryd.func21, Tryd.ntmps21
    go_wp2_with fail
    go_ret
    exact ⟨rfl, 0, rfl⟩
  · have hz' : 0 < lo := by omega
    by_cases hg : p * lo * (S : Int) ≤ 100 * sh * (L : Int)
    · have hr : rch S L sh lo p = true := by unfold rch; rw [e1, e2]; simp [hz, hg]
      rw [hr]
      clear hr hz e1 e2
      go_enter Tryd.func21, Tryd.ntmps21
      go_wp2_with fail
      go_ret
      exact ⟨rfl, 0, rfl⟩
    · have hr : rch S L sh lo p = false := by unfold rch; rw [e1, e2]; simp [hz]; omega
      rw [hr]
      clear hr hz e1 e2
      go_enter Tryd.func21, Tryd.ntmps21
      go_wp2_with fail
      go_ret
      exact ⟨rfl, 0, rfl⟩
/-- The memory of the law's loop. -/
structure TrM (wr : World) (S L : Nat) (ON OFF : Int) (pd : Nat) (xv : Value) (N : Nat) (x : List Int) (lv : Value) (n1 : Nat) (l : List Tr) : Prop where
  det : wr.heap[pd]? = some (.cells #[.int .i64 S, .int .i64 L, .int .i64 ON, .int .i64 OFF] 28 (0, 0))
  sv : SV wr xv N (fn x)
  ts : TS wr lv n1 l
  cl : Cl wr
theorem TrM.below {wr w' : World} {S L : Nat} {ON OFF : Int} {pd : Nat} {xv : Value} {N : Nat} {x : List Int} {lv : Value} {n1 : Nat} {l : List Tr} (M : TrM wr S L ON OFF pd xv N x lv n1 l) (h : Below wr.heap.size wr w') : TrM w' S L ON OFF pd xv N x lv n1 l :=
  ⟨hbk h M.det, M.sv.below h, M.ts.below h, hbk h M.cl⟩
theorem TS.at {w : World} {a : Option Addr} {n c k : Nat} {l : List Tr} {t : Tr} (h : TS w (.slice a n c) n l) (hk : l[k]? = some t) :
    ∃ g, a = some ⟨g, 0, none⟩ ∧ k < n ∧ g < w.heap.size ∧ w.cell? ⟨g, k * 3, none⟩ = some (.int .i64 t.on) ∧ w.cell? ⟨g, k * 3 + 1, none⟩ = some (.int .i64 t.off) ∧ w.cell? ⟨g, k * 3 + 2, none⟩ = some (.int .i64 t.pk) := by
  obtain ⟨a', c', e, h0, h1, h2, h3⟩ := h
  cases e
  have hk9 : k < l.length := (List.getElem?_eq_some_iff.1 hk).1
  obtain ⟨g, rfl, h4, h5⟩ := h3 (by omega)
  exact ⟨g, rfl, by omega, h4, h5 k t hk⟩
theorem aft_at {d : Dt} {V : Nat → Int} {n k : Nat} {l e : List Tr} {o : Tr} (hL : 1 ≤ d.L) (hV : ∀ j, 0 ≤ V j) (hl : l = runL d V n) (hs : scn d V k = (e, o)) (hk : k ≤ n) : Aft n k l e o := by
  have := aft_any d V hL hV n (n - k) k (by omega)
  rw [hs] at this
  rw [hl]
  exact this
end Det
end Go.Proofs.YtbmcmiggifknfaaDoor
