/- same, sane of law 9. -/
import Derived.Test.YtjgbidnijfecoaaLnkF
set_option linter.unusedVariables false
set_option linter.unusedSimpArgs false
namespace Go.Proofs.Ytjgbidnijfecoaa
open Go.RowKit Wi Dice
namespace Lnk
theorem own_ty {w : World} {B sz b o : Nat} {e T : TypeId} {v : Value} {n : Nat} {xs : List Value} {cs : Array Value} {fr : Nat × Nat} (h : w.ownsRow B e sz v n xs) (hb : w.heap[b]? = some (.cells cs T fr)) (hT : T ≠ e) (u : Value) : (w.setCell ⟨b, o, none⟩ u).ownsRow B e sz v n xs := by
  refine own_kept h fun k hk => Below.heap_setCell w ⟨b, o, none⟩ u k ?_
  rintro rfl
  rcases h.2 with ⟨rfl, _⟩ | ⟨g, cap, cur, rfl, _, hg, _⟩
  · cases hk
  · simp only [Value.ownBlock, Option.some.injEq] at hk
    subst hk
    rw [hb] at hg
    cases hg
    exact hT rfl
theorem own_ty3 {w : World} {B sz b : Nat} {e T : TypeId} {v : Value} {n : Nat} {xs : List Value} {x y z : Value} (h : w.ownsRow B e sz v n xs) (hb : w.heap[b]? = some (.cells #[x, y, z] T (0, 0))) (hT : T ≠ e) (p q r : Value) : (((w.setCell ⟨b, 0, none⟩ p).setCell ⟨b, 1, none⟩ q).setCell ⟨b, 2, none⟩ r).ownsRow B e sz v n xs :=
  own_ty (own_ty (own_ty h hb hT p) (st3 hb p).1 hT q) (st3 (st3 hb p).1 q).2.1 hT r
theorem st_far3 {w : World} {g b : Nat} {x : Obj} (h : w.heap[b]? = some x) (hne : b ≠ g) (p q r : Value) : (((w.setCell ⟨g, 0, none⟩ p).setCell ⟨g, 1, none⟩ q).setCell ⟨g, 2, none⟩ r).heap[b]? = some x := st_far (st_far (st_far h hne p) hne q) hne r
theorem sAt {w : World} {B : Nat} {g n c : Nat} {l : List ByteArray} (h : OwnS w B (.slice (some ⟨g, 0, none⟩) n c) l) (hn : n = l.length) (k : Nat) (hk : k < n) : w.cell? ⟨g, k, none⟩ = some (.string (l.getD k ByteArray.empty)) := by
  subst hn
  have h' : w.ownsRow B 9 1 (.slice (some ⟨g, 0, none⟩) l.length c) l.length (l.map Value.string) := h
  rw [h'.cellAt k (by omega)]
  simp [List.getD_eq_getElem?_getD, hk]
theorem same_any {w : World} {B B' : Nat} {a b : Value} {l : List ByteArray} (ha : OwnS w B a l) (hb : OwnS w B' b l) (h9 : l.length ≤ 1000) :
    Calls Try.prog 17 #[a, b] w fun e w' => e = .returned (.bool true) ∧ Below w.heap.size w w' := by
  obtain ⟨n, hn⟩ : ∃ n, n = l.length := ⟨_, rfl⟩
  have HA : Hid (∃ a1 c1, a = .slice a1 n c1 ∧ (0 < n → ∃ g, a1 = some ⟨g, 0, none⟩ ∧ ∀ k, k < n → w.cell? ⟨g, k, none⟩ = some (.string (l.getD k ByteArray.empty)))) := Lib.hid (by
    rcases own_shape ha with ⟨rfl, h0⟩ | ⟨g, c, rfl, _⟩
    · exact ⟨none, 0, by rw [hn, h0], fun h => by omega⟩
    · exact ⟨_, c, by rw [hn], fun _ => ⟨g, rfl, fun k hk => sAt ha rfl k (by omega)⟩⟩)
  have HB : Hid (∃ a1 c1, b = .slice a1 n c1 ∧ (0 < n → ∃ g, a1 = some ⟨g, 0, none⟩ ∧ ∀ k, k < n → w.cell? ⟨g, k, none⟩ = some (.string (l.getD k ByteArray.empty)))) := Lib.hid (by
    rcases own_shape hb with ⟨rfl, h0⟩ | ⟨g, c, rfl, _⟩
    · exact ⟨none, 0, by rw [hn, h0], fun h => by omega⟩
    · exact ⟨_, c, by rw [hn], fun _ => ⟨g, rfl, fun k hk => sAt hb rfl k (by omega)⟩⟩)
  obtain ⟨a1, c1, rfl, h1⟩ := HA.out
  obtain ⟨b1, c2, rfl, h2⟩ := HB.out
  rw [← hn] at h9
  replace h1 := Lib.hid h1
  replace h2 := Lib.hid h2
  clear ha hb HA HB hn
  go_enter Try.func17, Try.ntmps17
  go_wp2_with fail
  go_loopw [13] (fun i wr => ∃ k : Nat, k ≤ n ∧ i = .int .i64 k ∧ ∃ m, wr = w.drewN m) (fun i _ => n - (intOf i).toNat)
  case atStart => exact ⟨0, Nat.zero_le _, rfl, 0, rfl⟩
  case round =>
    obtain ⟨k, hk, rfl, m, rfl⟩ := hrel
    by_cases hlt : k < n
    · obtain ⟨g, rfl, g1⟩ := h1.out (by omega)
      obtain ⟨g', rfl, g2⟩ := h2.out (by omega)
      have x1 : w.cell? ⟨g, k, none⟩ = some (.string (l.getD k ByteArray.empty)) := g1 k hlt
      have x2 : w.cell? ⟨g', k, none⟩ = some (.string (l.getD k ByteArray.empty)) := g2 k hlt
      generalize l.getD k ByteArray.empty = s at x1 x2
      clear g1 g2
      go_wp2_with fail
      go_quiet (fail)
      go_wp2
      go_roundw
      case rel => exact ⟨k + 1, by omega, by go_num, _, rfl⟩
      case measure => simp [intOf]; omega
    · obtain rfl : k = n := by omega
      go_wp2
      go_ret
      exact ⟨rfl, Buf.below_drewN (Below.refl _ _) m⟩
def sM : ByteArray := ⟨#[109]⟩
def Lj : Nat → List (Int × Int × ByteArray)
  | 0 | 1 | 2 => [(3, 0, ⟨#[109]⟩), (4, 0, ⟨#[109]⟩)]
  | 3 => [(4, 0, ⟨#[109]⟩)]
  | _ => []
def gj : Nat → Nat
  | 0 | 1 | 2 => 0
  | 3 => 1
  | _ => 2
theorem good_j (j : Nat) (h : j ≤ 5) : Good j 1 (Lj j) := by
  obtain rfl | rfl | rfl | rfl | rfl | rfl : j = 0 ∨ j = 1 ∨ j = 2 ∨ j = 3 ∨ j = 4 ∨ j = 5 := by omega
  all_goals
    refine ⟨by decide, by decide, by decide, by decide, by decide, fun k p hp => ?_, fun k p q hp hq => ?_⟩
    · rcases k with _ | _ | k <;> simp [Lj] at hp <;> subst hp <;> decide
    · rcases k with _ | _ | k <;> simp [Lj] at hp hq <;> subst hp hq <;> decide
theorem due_j (j : Nat) (h : j ≤ 4) : (Lj j).drop (due ((j : Int) + 1) (Lj j)) = Lj (j + 1) ∧ (dat ((Lj j).take (due ((j : Int) + 1) (Lj j)))).length = gj (j + 1) - gj j := by
  obtain rfl | rfl | rfl | rfl | rfl : j = 0 ∨ j = 1 ∨ j = 2 ∨ j = 3 ∨ j = 4 := by omega
  all_goals exact ⟨by rfl, by rfl⟩
theorem len_j (j : Nat) : (Lj j).length ≤ 2 := by unfold Lj; split <;> decide
theorem zero3 (w : World) (b : Nat) (t : TypeId) (x y z : Value) (h : w.heap[b]? = some (.cells #[x, y, z] t (0, 0))) : w.cell? ⟨b, 0, none⟩ = some x ∧ w.cell? ⟨b, 1, none⟩ = some y ∧ w.cell? ⟨b, 2, none⟩ = some z := c3 h
set_option maxRecDepth 100000 in
set_option maxHeartbeats 8000000 in
theorem sane_any (w : World) : Calls Try.prog 7 #[] w fun e w' => e = .returned (.bool true) ∧ Below w.heap.size w w' := by
  have G0 : Good 0 0 [] := ⟨by decide, by decide, by decide, by decide, by decide, fun k p hp => by simp at hp, fun k p q hp hq => by simp at hp⟩
  go_enter Try.func7, Try.ntmps7
  go_wp2_with fail
  refine (new_any _).mono ?_
  rintro e w1 ⟨rfl, hb1⟩
  replace hb1 := Lib.hid hb1
  go_wp2_with fail
  refine (send_end (B := w.heap.size) (L := []) 0 0 2 1 ⟨#[109]⟩ false 2 (by decide) G0 (.inl ⟨rfl, rfl⟩) (fun k p hp => by simp at hp) (by decide) (by decide) (by decide) (by decide) (by decide) (by decide) (by decide) (by decide)).mono ?_
  rintro e w2 ⟨⟨r, rfl, hr⟩, hb2⟩
  have W2 := Lib.hid (Buf.then_ hb1.out hb2)
  have hr' : OwnT w2 w.heap.size r (Lj 0) := own_mono (by exact hr) hb1.out.size
  obtain ⟨ra, rm, rc, rfl, hrm⟩ := own_letter hr'
  replace hr := Lib.hid hr'
  clear hb2 hb1 G0 hr'
  have P1 := Lib.hid (heap_alloc_new w2 (.cells #[.int .i64 0, .int .i64 1, .slice ra rm rc] 29))
  have W3 : Hid (Below w.heap.size w (w2.alloc (.cells #[.int .i64 0, .int .i64 1, .slice ra rm rc] 29))) := Lib.hid (Buf.then_ W2.out (new_block _))
  have O3 := Lib.hid (own_below hr.out (new_block (.cells #[.int .i64 0, .int .i64 1, .slice ra rm rc] 29)))
  have z2 := W2.out.size
  go_wp2_with fail
  generalize w2.heap.size = b1 at *
  generalize w2.alloc (.cells #[.int .i64 0, .int .i64 1, .slice ra rm rc] 29) = w3 at *
  clear W2 hr
  go_loopw [4, 3] (fun i s wr => ∃ (j : Nat) (r : Value), j ≤ 5 ∧ i = .int .i64 ((j : Int) + 1) ∧ s = .int .i64 (gj j : Int) ∧ Hid (OwnT wr w.heap.size r (Lj j)) ∧ Hid (wr.heap[b1]? = some (.cells #[.int .i64 (j : Int), .int .i64 1, r] 29 (0, 0))) ∧ Hid (Below w.heap.size w wr)) (fun i _ _ => (7 - intOf i).toNat)
  case atStart => exact ⟨0, _, by omega, rfl, rfl, O3, P1, W3⟩
  case round =>
    clear O3 P1 W3
    obtain ⟨j, r, hj, rfl, rfl, O, P1, W3⟩ := hrel
    have lb := (Array.getElem?_eq_some_iff.1 P1.out).1
    obtain ⟨ra, rm, rc, rfl, hrm⟩ := own_letter O.out
    obtain ⟨k0, k1, k2⟩ := c3 P1.out
    by_cases h5 : j = 5
    · subst h5
      simp only [gj, Int.cast_ofNat_Int]
      go_wp2_with fail
      go_ret
      exact ⟨rfl, W3.out⟩
    · obtain ⟨q1, q2⟩ := due_j j (by omega)
      have T := tick_any (B := w.heap.size) (v := .slice ra rm rc) (j : Int) 1 (good_j j hj) (its_of_own O.out) (by omega) (by have := len_j j; omega)
      have T' := Lib.hid T
      rw [q1] at T'
      have hq2 := Lib.hid q2
      clear q1 q2 T
      go_wp2_with fail
      refine T'.out.mono ?_
      rintro e w4 ⟨⟨r4, l4, rfl, o4, s4⟩, hb4⟩
      obtain ⟨r4a, r4m, r4c, rfl, h4⟩ := own_letter o4
      obtain ⟨l4a, l4m, l4c, rfl, h4'⟩ := own_letter s4
      have hlm : Hid (l4m = gj (j + 1) - gj j) := Lib.hid (by rw [h4'.out]; exact hq2.out)
      have P4 := Lib.hid (hb hb4 P1.out)
      have O4 := Lib.hid (own_mono o4 W3.out.size)
      have W4 := Lib.hid (Buf.then_ W3.out hb4)
      clear hb4 o4 s4 k0 k1 k2 T' hq2 h4' O W3
      obtain ⟨w5, hw5⟩ : ∃ w5, w5 = w4.alloc (.cells #[.int .i64 ((j : Int) + 1), .int .i64 1, .slice r4a r4m r4c] 29) := ⟨_, rfl⟩
      have N5 := Lib.hid (show w5.heap[w4.heap.size]? = some (.cells #[.int .i64 ((j : Int) + 1), .int .i64 1, .slice r4a r4m r4c] 29 (0, 0)) by rw [hw5]; exact heap_alloc_new w4 _)
      have Y5 : Hid (Below w4.heap.size w4 w5) := Lib.hid (by rw [hw5]; exact new_block _)
      have P5 := Lib.hid (hb Y5.out P4.out)
      have O5 := Lib.hid (own_below O4.out Y5.out)
      have W5 := Lib.hid (Buf.then_ W4.out Y5.out)
      have hlt5 := (Array.getElem?_eq_some_iff.1 P4.out).1
      replace hw5 := Lib.hid hw5
      go_upto_region 7 with fail
      rw [← hw5.out]
      clear hw5
      obtain rfl | rfl | rfl | rfl | rfl : j = 0 ∨ j = 1 ∨ j = 2 ∨ j = 3 ∨ j = 4 := by omega
      all_goals
        obtain rfl := hlm.out
        simp only [gj, Int.cast_ofNat_Int] at *
        obtain ⟨k0, k1, k2⟩ := c3 P5.out
        obtain ⟨j0, j1, j2⟩ := f3 P5.out
        obtain ⟨n0, n1, n2⟩ := c3 N5.out
        go_wp2_with fail
        go_roundw
        case rel => exact ⟨_, _, (by omega : _ + 1 ≤ 5), rfl, rfl, Lib.hid (own_ty3 O5.out P5.out (by decide) _ _ _), Lib.hid (st3all P5.out _ _ _), Lib.hid (below_set3 W5.out (by omega) _ _ _)⟩
        case measure => simp [intOf]
end Lnk
end Go.Proofs.Ytjgbidnijfecoaa
