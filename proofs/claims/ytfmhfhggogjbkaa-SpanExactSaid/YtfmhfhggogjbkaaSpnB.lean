/- span.add: a span behind those of a set. -/
import Derived.Test.YtfmhfhggogjbkaaSpnA
import Derived.Deep.AppendLies
import Derived.Laws.OwnMore
import Derived.Deep.DeepCutAuto
set_option linter.unusedVariables false
set_option linter.unusedSimpArgs false
namespace Go.Proofs.Ytfmhfhggogjbkaa
open Go.RowKit Dice
namespace Spn
open Sp (cells2 cells2_snoc cells2_get Spans own_kept own_below own_mono own_shape)
theorem cells2_append (a b : LP) : cells2 (a ++ b) = cells2 a ++ cells2 b := by simp [cells2]
theorem set_last (u : LP) (p : Int × Int) (y : Int) (m : Nat) (hm : m = u.length) : (cells2 (u ++ [p])).set (m * 2 + 1) (.int .i64 y) = cells2 (u ++ [(p.1, y)]) := by
  subst hm
  rw [cells2_append, cells2_append, List.set_append_right _ _ (by rw [cells2_length]; omega), cells2_length]
  congr 1
  have : u.length * 2 + 1 - u.length * 2 = 1 := by omega
  rw [this]
  simp [cells2]
theorem grown_own {w w' : World} {B : Nat} {v : Value} {L : LP} (O : Spans w B v L) (h : Below w.heap.size w w') : Spans w' B v L := own_below O h
/-- Behind add. -/
def Added (w : World) (B : Nat) (v : Value) (L : LP) (e : Ending) (w' : World) : Prop :=
  (∃ r, e = .returned r ∧ Spans w' B r L ∧ ∀ k, r.ownBlock = some k → v.ownBlock = some k ∨ w.heap.size ≤ k) ∧ w.grownBy w' v.ownBlock
theorem grownBy_trans {w w1 w2 : World} {r : Option Nat} (h : w.grownBy w1 r) (k : w1.grownBy w2 r) : w.grownBy w2 r := h.trans k
set_option maxRecDepth 100000 in
set_option maxHeartbeats 4000000 in
theorem add_any {w : World} {B : Nat} {v : Value} {L : LP} (x y : Int) (O : Spans w B v L) (hB : B ≤ w.heap.size) (h9 : L.length ≤ 1000) :
    Calls Try.prog 56 #[v, .agg #[.int .i64 x, .int .i64 y]] w fun e w' => Added w B v (addL L (x, y)) e w' := by
  obtain ⟨i0, hi, hz0, hz1, hz2⟩ := info_get infoS
  have one : Hid (∀ u ∈ [Value.int .i64 x, .int .i64 y], u.oneCell' = true) := Lib.hid (by simp; exact ⟨rfl, rfl⟩)
  obtain ⟨w1, hw1⟩ : ∃ w1, w1 = w.alloc (.cells #[.int .i64 x, .int .i64 y] 49) := ⟨_, rfl⟩
  have W1 := Lib.hid (show Below w.heap.size w w1 by rw [hw1]; exact new_block _)
  have O1 := Lib.hid (own_below O W1.out)
  have K1 := c2 (show w1.heap[w.heap.size]? = some (.cells #[.int .i64 x, .int .i64 y] 49 (0, 0)) by rw [hw1]; exact heap_alloc_new w _)
  have S1 : Hid (w1.heap.size = w.heap.size + 1) := Lib.hid (by rw [hw1]; simp)
  obtain ⟨k0, k1⟩ := K1
  have hB1 : Hid (B ≤ w1.heap.size) := Lib.hid (by rw [S1.out]; omega)
  have HO := Lib.hid O
  have hsh := own_shape O
  clear O
  replace hw1 := Lib.hid hw1
  by_cases h1 : y ≤ x
  · have d1 : decide (y ≤ x) = true := decide_eq_true h1
    have e0 : Hid (addL L (x, y) = L) := Lib.hid (addL_no _ _ h1)
    rw [e0.out]
    rcases hsh with ⟨rfl, hn⟩ | ⟨g, c, rfl, hc, hg⟩
    · go_enter Try.func56, Try.ntmps56
      go_upto_region 1 with fail
      rw [← hw1.out]
      go_wp2_with fail
      go_ret
      exact ⟨⟨_, rfl, O1.out, fun k hk => .inl hk⟩, grown_of_below W1.out⟩
    · go_enter Try.func56, Try.ntmps56
      go_upto_region 1 with fail
      rw [← hw1.out]
      go_wp2_with fail
      go_ret
      exact ⟨⟨_, rfl, O1.out, fun k hk => .inl hk⟩, grown_of_below W1.out⟩
  · have h1' : x < y := by omega
    have d1 : decide (y ≤ x) = false := decide_eq_false h1
    clear h1
    have hb3 := Lib.hid fun q => Sp.Geo_new (w1.drewN q) (.cells #[.int .i64 x, .int .i64 y] 49)
    have W3 := Lib.hid fun q => ((Buf.below_drewN W1.out q).alloc (by show w.heap.size ≤ w1.heap.size; rw [S1.out]; omega) (.cells #[.int .i64 x, .int .i64 y] 49))
    have O3 := Lib.hid fun q => own_below HO.out (W3.out q)
    have hB3 : Hid (∀ q, B ≤ ((w1.drewN q).alloc (.cells #[.int .i64 x, .int .i64 y] 49)).heap.size) := Lib.hid fun q => Nat.le_trans hB (W3.out q).size
    have END : Hid (∀ q gq cq w5, w5.ownsRow B 49 2 (.slice (some ⟨gq, 0, none⟩) (L.length + 1) cq) (L.length + 1) (cells2 L ++ [.int .i64 x, .int .i64 y]) → addL L (x, y) = L ++ [(x, y)] → ((w1.drewN q).alloc (.cells #[.int .i64 x, .int .i64 y] 49)).grownBy w5 v.ownBlock → (v.ownBlock = some gq ∨ gq = ((w1.drewN q).alloc (.cells #[.int .i64 x, .int .i64 y] 49)).heap.size) → Added w B v (addL L (x, y)) (.returned (.slice (some ⟨gq, 0, none⟩) (L.length + 1) cq)) w5) := Lib.hid fun q gq cq w5 O2 he G2 hg2 => by
      rw [he]
      refine ⟨⟨_, rfl, by unfold Spans; rw [cells2_snoc]; simpa using O2, fun k hk => ?_⟩, (grown_of_below (W3.out q)).trans G2⟩
      have : gq = k := by simpa [Value.ownBlock] using hk
      subst this
      exact hg2.imp id fun e => by rw [e]; exact (W3.out q).size
    rcases hsh with ⟨rfl, hn⟩ | ⟨g, c, rfl, hc, hg⟩
    · obtain rfl : L = [] := List.length_eq_zero_iff.1 hn
      have e0 : Hid (addL [] (x, y) = [] ++ [(x, y)]) := Lib.hid (addL_nil _ h1')
      go_enter Try.func56, Try.ntmps56
      go_upto_region 1 with fail
      rw [← hw1.out]
      go_wp2_with fail
      go_quiet (fail)
      go_wp2_with (at_builtin; refine wpList_append_lies _ rfl (.tmp 42) (.tmp 44) 23 rfl B 49 i0 (.agg #[.int .i64 0, .int .i64 0]) 2 16 Try.underlying23 hi hz0 hz1 hz2 rfl (by decide) _ 0 [] rfl (O3.out _) ⟨w1.heap.size, 0, none⟩ 1 1 [.int .i64 x, .int .i64 y] rfl rfl (World.news_of_block (hb3.out _)) one.out (by decide) (by unfold maxLen; omega) (by omega) (hB3.out _) _ rfl ?_; intro gq cq w5 O2 G2 hg2 hl2)
      go_ret
      exact END.out _ _ _ _ O2 e0.out G2 hg2
    · rcases snoc_cases L with rfl | ⟨u, ⟨p1, p2⟩, rfl⟩
      · have e0 : Hid (addL [] (x, y) = [] ++ [(x, y)]) := Lib.hid (addL_nil _ h1')
        go_enter Try.func56, Try.ntmps56
        go_upto_region 1 with fail
        rw [← hw1.out]
        go_wp2_with fail
        go_quiet (fail)
        go_wp2_with (at_builtin; refine wpList_append_lies _ rfl (.tmp 42) (.tmp 44) 23 rfl B 49 i0 (.agg #[.int .i64 0, .int .i64 0]) 2 16 Try.underlying23 hi hz0 hz1 hz2 rfl (by decide) _ 0 [] rfl (O3.out _) ⟨w1.heap.size, 0, none⟩ 1 1 [.int .i64 x, .int .i64 y] rfl rfl (World.news_of_block (hb3.out _)) one.out (by decide) (by unfold maxLen; omega) (by omega) (hB3.out _) _ rfl ?_; intro gq cq w5 O2 G2 hg2 hl2)
        go_ret
        exact END.out _ _ _ _ O2 e0.out G2 hg2
      · obtain ⟨n, hn⟩ : ∃ n, n = (u ++ [(p1, p2)]).length := ⟨_, rfl⟩
        obtain ⟨m, hm⟩ : ∃ m, m = u.length := ⟨_, rfl⟩
        have hnm : n = m + 1 := by rw [hn, hm]; simp
        have k2 : w1.cell? ⟨g, m * 2 + 1, none⟩ = some (.int .i64 p2) := by
          rcases its_of_own O1.out with ⟨h, _⟩ | ⟨g', c', e, _, _, h3⟩
          · cases h
          · cases e
            exact (h3 m (p1, p2) (by rw [hm]; simp)).2
        have e1 : IntKind.i64.wrap ((n : Int) - 1) = m := by rw [IntWalk.i64_in _ ⟨by omega, by omega⟩]; omega
        have b1 : (m : Int) < n := by omega
        have b2 : (0 : Int) ≤ m := by omega
        have d3 : decide (0 < n) = true := decide_eq_true (by omega)
        have d4 : 0 < n := by omega
        replace hnm := Lib.hid hnm
        rw [← hn] at O1 O3 h9 hc END ⊢
        by_cases h2 : x ≤ p2
        · have d2 : decide (x ≤ p2) = true := decide_eq_true h2
          have e0 : Hid (addL (u ++ [(p1, p2)]) (x, y) = u ++ [(p1, max p2 y)]) := Lib.hid (addL_join _ _ _ h1' h2)
          have fz : Hid (∀ q, (w1.drewN q).frozen? ⟨g, m * 2 + 1, none⟩ = false) := Lib.hid fun q => World.ownsRow.frozenAt (own_below O1.out (Buf.below_drewN (Below.refl _ _) q)) _
          have ST : Hid (∀ q, Added w B (.slice (some ⟨g, 0, none⟩) n c) (addL (u ++ [(p1, p2)]) (x, y)) (.returned (.slice (some ⟨g, 0, none⟩) n c)) ((w1.drewN q).setCell ⟨g, m * 2 + 1, none⟩ (.int .i64 (max p2 y)))) := Lib.hid fun q => by
            obtain ⟨s1, s2⟩ := World.ownsRow.stored (own_below O1.out (Buf.below_drewN (Below.refl _ _) q)) (m * 2 + 1) (.int .i64 (max p2 y))
            rw [set_last _ _ _ _ hm] at s1
            refine ⟨⟨_, rfl, by rw [e0.out]; unfold Spans; simpa [hn] using s1, fun k hk => .inl hk⟩, (grown_of_below (Buf.below_drewN W1.out q)).trans s2⟩
          clear END O3 hb3 W3 hB3 O1 hn hm
          go_enter Try.func56, Try.ntmps56
          go_upto_region 1 with fail
          rw [← hw1.out]
          go_wp2_with fail
          go_quiet (fail)
          go_wp2_with fail
          have f0 : w1.frozen? ⟨g, m * 2 + 1, none⟩ = false := fz.out 0
          clear fz
          go_region
          go_wp2_with fail
          go_ret
          exact ST.out _
        · have h2' : p2 < x := by omega
          have d2 : decide (x ≤ p2) = false := decide_eq_false h2
          have e0 : Hid (addL (u ++ [(p1, p2)]) (x, y) = (u ++ [(p1, p2)]) ++ [(x, y)]) := Lib.hid (addL_new _ _ _ h1' h2')
          clear O1 hm
          replace hn := Lib.hid hn
          go_enter Try.func56, Try.ntmps56
          go_upto_region 1 with fail
          rw [← hw1.out]
          go_wp2_with fail
          go_quiet (fail)
          go_wp2_with (at_builtin; refine wpList_append_lies _ rfl (.tmp 42) (.tmp 44) 23 rfl B 49 i0 (.agg #[.int .i64 0, .int .i64 0]) 2 16 Try.underlying23 hi hz0 hz1 hz2 rfl (by decide) _ n (cells2 (u ++ [(p1, p2)])) rfl (O3.out _) ⟨w1.heap.size, 0, none⟩ 1 1 [.int .i64 x, .int .i64 y] rfl rfl (World.news_of_block (hb3.out _)) one.out (by decide) (by unfold maxLen; omega) (by omega) (hB3.out _) _ rfl ?_; intro gq cq w5 O2 G2 hg2 hl2)
          go_ret
          exact END.out _ _ _ _ O2 e0.out G2 hg2
end Spn
end Go.Proofs.Ytfmhfhggogjbkaa
