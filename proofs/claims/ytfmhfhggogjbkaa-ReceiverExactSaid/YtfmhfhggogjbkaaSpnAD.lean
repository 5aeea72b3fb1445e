/- SpnAD: texts joined. -/
import Derived.Test.YtfmhfhggogjbkaaSndA
import Derived.Test.YtfmhfhggogjbkaaSpnM
import Derived.Lib.SliceRun
import Derived.Lib.MinMax
import Derived.Deep.RegionHeld3
import Derived.Deep.AppendLies
import Derived.Laws.OwnMore
import Derived.Deep.DeepCutAuto
import Derived.Shelf.SlSortCmp.WholeK
import Derived.Shelf.SlGeneric
import Derived.Test.YtfmhfhggogjbkaaChecked
import Derived.OwnWalk
/- Lists of spans in memory; slices.Clone, span.Valid and span.add. -/
set_option linter.unusedVariables false
set_option linter.unusedSimpArgs false
namespace Go.Proofs.Ytfmhfhggogjbkaa
open Go.RowKit Dice
namespace Spn
open Sp (cells2 cells2_snoc cells2_get Spans own_kept own_below own_mono own_shape)
theorem infoS : (Try.prog.info? 49).map (fun i => (i.zero, i.size, i.bytes)) = some (some (.agg #[.int .i64 0, .int .i64 0]), 2, 16) := by kernel_rfl
theorem info_get {o : Option TypeInfo} {z s b} (h : o.map (fun i => (i.zero, i.size, i.bytes)) = some (z, s, b)) : ∃ i, o = some i ∧ i.zero = z ∧ i.size = s ∧ i.bytes = b := by
  cases o with
  | none => simp at h
  | some i => simp at h; exact ⟨i, rfl, h.1, h.2.1, h.2.2⟩
theorem hop {w w' : World} {b : Nat} {o : Obj} (h : Below w.heap.size w w') (e : w.heap[b]? = some o) : w'.heap[b]? = some o := (h.block b (Array.getElem?_eq_some_iff.1 e).1).trans e
theorem c2 {w : World} {g : Nat} {x y : Value} {t : TypeId} (h : w.heap[g]? = some (.cells #[x, y] t (0, 0))) : w.cell? ⟨g, 0, none⟩ = some x ∧ w.cell? ⟨g, 1, none⟩ = some y :=
  ⟨(cell_of_row w g 0 _ _ _ h).trans rfl, (cell_of_row w g 1 _ _ _ h).trans rfl⟩
theorem cells2_length (l : LP) : (cells2 l).length = l.length * 2 := by
  induction l with
  | nil => rfl
  | cons p l ih => simp only [cells2, List.flatMap_cons, List.length_append, List.length_cons, List.length_nil] at ih ⊢; omega
theorem cells2_one (l : LP) : ∀ u ∈ cells2 l, u.oneCell' = true := by
  intro u hu
  simp only [cells2, List.mem_flatMap, List.mem_cons, List.not_mem_nil, or_false] at hu
  obtain ⟨p, _, rfl | rfl⟩ := hu <;> rfl
/-- A list of spans that can be read. -/
def Its (w : World) (v : Value) (L : LP) : Prop :=
  (v = .slice none 0 0 ∧ L = []) ∨ ∃ g c, v = .slice (some ⟨g, 0, none⟩) L.length c ∧ L.length ≤ c ∧ g < w.heap.size ∧
    ∀ (k : Nat) (p : Int × Int), L[k]? = some p → w.cell? ⟨g, k * 2, none⟩ = some (.int .i64 p.1) ∧ w.cell? ⟨g, k * 2 + 1, none⟩ = some (.int .i64 p.2)
theorem Its.below {B : Nat} {w w' : World} {v : Value} {L : LP} (h : Its w v L) (hv : ∀ g, v.ownBlock = some g → g < B) (hb : Below B w w') : Its w' v L := by
  refine h.imp id ?_
  rintro ⟨g, c, rfl, h2, h3, h4⟩
  have hg := hv g rfl
  exact ⟨g, c, rfl, h2, Nat.lt_of_lt_of_le h3 hb.size, fun k p hp => ⟨(hb.cell (p := ⟨g, _, none⟩) hg).trans (h4 k p hp).1, (hb.cell (p := ⟨g, _, none⟩) hg).trans (h4 k p hp).2⟩⟩
theorem Its.lt {w : World} {v : Value} {L : LP} (h : Its w v L) (g : Nat) (hg : v.ownBlock = some g) : g < w.heap.size := by
  rcases h with ⟨rfl, _⟩ | ⟨b, c, rfl, _, h3, _⟩
  · cases hg
  · cases hg; exact h3
theorem Its.keep {w w' : World} {v : Value} {L : LP} (h : Its w v L) (hb : Below w.heap.size w w') : Its w' v L := h.below h.lt hb
theorem its_of_own {B : Nat} {w : World} {v : Value} {L : LP} (h : Spans w B v L) : Its w v L := by
  have h0 := h
  rcases h.2 with ⟨h1, h2⟩ | ⟨g, cap, cur, rfl, h2, h3, h4, h5, h6, h7⟩
  · exact .inl ⟨h1, List.eq_nil_of_length_eq_zero h2⟩
  · refine .inr ⟨g, cap, rfl, h4, (Array.getElem?_eq_some_iff.1 h3).1, fun k p hp => ?_⟩
    have hk : k < L.length := (List.getElem?_eq_some_iff.1 hp).1
    obtain ⟨a, b⟩ := cells2_get L k p hp
    have ho : w.ownsRow B 49 2 (.slice (some ⟨g, 0, none⟩) L.length cap) L.length (cells2 L) := h0
    exact ⟨(ho.cellAt _ (by omega)).trans a, (ho.cellAt _ (by omega)).trans b⟩
theorem Its.rd {w : World} {g c n : Nat} {L : LP} (hn : n = L.length) (h : Its w (.slice (some ⟨g, 0, none⟩) n c) L) : ∀ j u, (cells2 L)[j]? = some u → w.cell? ((⟨g, 0, none⟩ : Addr).add j) = some u := by
  rcases h with ⟨h, _⟩ | ⟨g', c', e, h1, h2, h3⟩
  · cases h
  · cases e
    intro j u hu
    have hj : j < L.length * 2 := by rw [← cells2_length]; exact (List.getElem?_eq_some_iff.1 hu).1
    rw [Addr.add_lit, Nat.zero_add]
    obtain ⟨k, r, rfl, hr⟩ : ∃ k r, j = k * 2 + r ∧ r < 2 := ⟨j / 2, j % 2, by omega, by omega⟩
    have hk : k < L.length := by omega
    obtain ⟨a, b⟩ := cells2_get L k _ (List.getElem?_eq_getElem hk)
    obtain ⟨a', b'⟩ := h3 k _ (List.getElem?_eq_getElem hk)
    obtain rfl | rfl : r = 0 ∨ r = 1 := by omega
    · rw [Nat.add_zero] at hu ⊢; rw [a', ← hu, a]
    · rw [b', ← hu, b]
set_option maxHeartbeats 2000000 in
theorem clone_any {w : World} {v : Value} {L : LP} (h : Its w v L) (h9 : L.length ≤ 1000) :
    Calls Try.prog 57 #[v] w fun e w' => (∃ r, e = .returned r ∧ Spans w' w.heap.size r L) ∧ Below w.heap.size w w' := by
  obtain ⟨i0, hi, hz0, hz1, hz2⟩ := info_get infoS
  have R := Lib.hid (h.keep (new_block (w := w) (.cells #[] 49)))
  rcases h with ⟨rfl, rfl⟩ | ⟨g, c, rfl, hc, hg, h3⟩
  · have q : ∀ w : World, (binOp .eql 23 (.slice none 0 0) (.slice none 0 0)).run Try.prog w = .ok (.bool true) w := fun w => Lib.run_eql_slice_nil (P := Try.prog) w 23 49 none 0 0 0 0 rfl
    clear R
    go_enter Try.func57, Try.ntmps57
    go_wp2_with fail
    go_ret
    exact ⟨⟨_, rfl, World.ownsRow_nil _ _ _ _⟩, Below.refl _ _⟩
  · have q : ∀ w : World, (binOp .eql 23 (.slice (some ⟨g, 0, none⟩) L.length c) (.slice none 0 0)).run Try.prog w = .ok (.bool false) w := fun w => Lib.run_eql_slice_nil (P := Try.prog) w 23 49 (some ⟨g, 0, none⟩) L.length c 0 0 rfl
    have O : Hid ((w.alloc (.cells #[] 49)).ownsRow w.heap.size 49 2 (.slice (some ⟨w.heap.size, 0, none⟩) 0 0) 0 []) := Lib.hid (World.ownsRow_lit w #[] 0 (Nat.le_refl _) (by decide) rfl)
    have R' : Hid (∀ j u, (cells2 L)[j]? = some u → (w.alloc (.cells #[] 49)).cell? ((⟨g, 0, none⟩ : Addr).add j) = some u) := Lib.hid (R.out.rd rfl)
    have hl := Lib.hid (cells2_length L)
    have h1 := Lib.hid (cells2_one L)
    have m1 : Hid (0 + L.length ≤ maxLen) := Lib.hid (by unfold maxLen; omega)
    have m2 : Hid ((0 + L.length) * 16 ≤ 140737488355328) := Lib.hid (by omega)
    have hsz : w.heap.size ≤ (w.alloc (.cells #[] 49)).heap.size := by simp
    have OK : Hid (∀ r w', w'.ownsRow w.heap.size 49 2 r (0 + L.length) ([] ++ cells2 L) → Spans w' w.heap.size r L) := Lib.hid fun r w' hh => by simpa [Spans] using hh
    clear R h3
    go_enter Try.func57, Try.ntmps57
    go_wp2_with (at_builtin; (refine wpList_append_own _ rfl (.tmp 5) (.tmp 6) 23 rfl w.heap.size 49 i0 (.agg #[.int .i64 0, .int .i64 0]) 2 16 Try.underlying23 hi hz0 hz1 hz2 rfl (by decide) _ 0 [] rfl O.out ⟨g, 0, none⟩ L.length c (cells2 L) rfl hl.out R'.out h1.out m1.out m2.out hsz ?_; intro v' w' ho hg _))
    go_ret
    refine ⟨⟨_, rfl, OK.out _ _ ho⟩, ?_⟩
    refine Below.grown (new_block (w := w) (.cells #[] 49)) hg hsz fun k hk => ?_
    exact (O.out.lt k hk).1
theorem canon_take_succ {L : LP} {k : Nat} {s : Int × Int} (h : Canon (L.take k)) (hs : L[k]? = some s) (h1 : s.1 < s.2) (hp : ∀ j p, k = j + 1 → L[j]? = some p → p.2 < s.1) : Canon (L.take (k + 1)) := by
  rw [List.take_add_one, hs]
  refine canon_snoc.2 ⟨h, h1, fun q hq => ?_⟩
  obtain ⟨i, hi, e⟩ := List.mem_iff_getElem.1 hq
  have hik : i < k := by simp at hi; omega
  have hLi : L[i]? = some q := by rw [← e, List.getElem_take]; exact List.getElem?_eq_getElem _
  obtain ⟨j, rfl⟩ : ∃ j, k = j + 1 := ⟨k - 1, by omega⟩
  have hLj : L[j]? = some (L[j]'(by have := (List.getElem?_eq_some_iff.1 hs).1; omega)) := List.getElem?_eq_getElem _
  have hpj := hp j _ rfl hLj
  rcases Nat.lt_or_ge i j with hij | hij
  · have t1 : (L.take (j + 1))[i]? = some q := by rw [List.getElem?_take, if_pos (by omega)]; exact hLi
    have t2 : (L.take (j + 1))[j]? = some (L[j]'(by have := (List.getElem?_eq_some_iff.1 hs).1; omega)) := by rw [List.getElem?_take, if_pos (by omega)]; exact hLj
    have a1 := h.get hij t1 t2
    have a2 := h.at t2
    omega
  · obtain rfl : i = j := by omega
    rw [hLi] at hLj
    rw [Option.some.injEq] at hLj
    rw [← hLj] at hpj
    exact hpj
set_option maxRecDepth 100000 in
set_option maxHeartbeats 4000000 in
theorem valid_any {w : World} {v : Value} {L : LP} (r : Bool) (hr : r = true ↔ Canon L) (h : Its w v L) (h9 : L.length ≤ 1000) :
    Calls Try.prog 24 #[v] w fun e w' => e = .returned (.bool r) ∧ Below w.heap.size w w' := by
  have HR := Lib.hid hr
  clear hr
  rcases h with ⟨rfl, rfl⟩ | ⟨g, c, rfl, hc, hg, hcell⟩
  · obtain rfl : r = true := HR.out.2 Canon.nil
    go_enter Try.func24, Try.ntmps24
    go_wp2_with fail
    go_loop [7] (fun i => i = .int .i64 0) (fun _ => 0)
    case atStart => rfl
    case round =>
      subst hrel
      go_wp2
      go_ret
      exact ⟨rfl, Below.refl _ _⟩
  · have HC := Lib.hid hcell
    obtain ⟨n, hn⟩ : ∃ n, n = L.length := ⟨_, rfl⟩
    rw [← hn] at h9 hc ⊢
    have Hn := Lib.hid hn
    have W0 := Lib.hid (Below.refl w.heap.size w)
    clear hcell hn
    go_enter Try.func24, Try.ntmps24
    go_wp2_with fail
    go_loopw [7] (fun i wr => ∃ k : Nat, k ≤ n ∧ i = .int .i64 k ∧ Hid (Below w.heap.size w wr) ∧ Hid (Canon (L.take k))) (fun i _ => n - (intOf i).toNat)
    case atStart => exact ⟨0, Nat.zero_le _, rfl, W0, Lib.hid Canon.nil⟩
    case round =>
      clear W0
      obtain ⟨k, hk, rfl, HB, HT⟩ := hrel
      by_cases hlt : k < n
      · obtain ⟨⟨f, t⟩, hp⟩ : ∃ p, L[k]? = some p := ⟨L[k]'(by rw [← Hn.out]; exact hlt), List.getElem?_eq_getElem _⟩
        obtain ⟨q0, q1⟩ := HC.out k _ hp
        have k0 := (HB.out.cell (p := ⟨g, _, none⟩) hg).trans q0
        have k1 := (HB.out.cell (p := ⟨g, _, none⟩) hg).trans q1
        dsimp only at k0 k1
        have HP := Lib.hid hp
        have HB2 : Hid (Below w.heap.size w (wr.alloc (.cells #[.int .i64 f, .int .i64 t] 49))) := Lib.hid (HB.out.alloc HB.out.size _)
        clear q0 q1 hp
        by_cases hft : t ≤ f
        · obtain rfl : r = false := by
            rw [← Bool.not_eq_true, HR.out]
            intro hh
            have := hh.at HP.out
            dsimp only at this
            omega
          have d1 : decide (t ≤ f) = true := decide_eq_true hft
          go_wp2_with fail
          go_quiet (fail)
          go_wp2
          go_ret
          exact ⟨rfl, Buf.below_drewN HB2.out _⟩
        · have hft' : f < t := by omega
          have d1 : decide (t ≤ f) = false := decide_eq_false hft
          clear hft
          rcases Nat.eq_zero_or_pos k with rfl | hpos
          · have HT' := Lib.hid (canon_take_succ HT.out HP.out hft' (fun j p hj => by omega))
            clear HT
            go_wp2_with fail
            go_quiet (fail)
            go_wp2
            go_roundw
            case rel => exact ⟨1, by omega, rfl, Lib.hid (Buf.below_drewN HB2.out _), HT'⟩
            case measure => simp [intOf]; omega
          · obtain ⟨j, rfl⟩ : ∃ j, k = j + 1 := ⟨k - 1, by omega⟩
            obtain ⟨⟨f2, t2⟩, hp2⟩ : ∃ p, L[j]? = some p := ⟨L[j]'(by rw [← Hn.out]; omega), List.getElem?_eq_getElem _⟩
            obtain ⟨q0, q1⟩ := HC.out j _ hp2
            have j1 := (HB2.out.cell (p := ⟨g, _, none⟩) hg).trans q1
            dsimp only at j1
            have HP2 := Lib.hid hp2
            have e1 : IntKind.i64.wrap (j : Int) = j := IntWalk.i64_in _ ⟨by omega, by omega⟩
            have b1 : (j : Int) < n := by omega
            have b2 : (0 : Int) ≤ j := by omega
            clear q0 q1 hp2 hpos
            by_cases hgap : f ≤ t2
            · obtain rfl : r = false := by
                rw [← Bool.not_eq_true, HR.out]
                intro hh
                have := hh.get (Nat.lt_succ_self j) HP2.out HP.out
                dsimp only at this
                omega
              have d2 : decide (f ≤ t2) = true := decide_eq_true hgap
              have d3 : decide ((0 : Int) < (j : Int) + 1) = true := decide_eq_true (by omega)
              go_wp2_with fail
              go_quiet (fail)
              go_wp2
              go_ret
              exact ⟨rfl, Buf.below_drewN HB2.out _⟩
            · have hgap' : t2 < f := by omega
              have d2 : decide (f ≤ t2) = false := decide_eq_false hgap
              have d3 : decide ((0 : Int) < (j : Int) + 1) = true := decide_eq_true (by omega)
              clear hgap
              have HT' := Lib.hid (canon_take_succ HT.out HP.out hft' (fun i p hi hp => by
                obtain rfl : i = j := by omega
                rw [HP2.out] at hp; cases hp; exact hgap'))
              clear HT
              go_wp2_with fail
              go_quiet (fail)
              go_wp2
              go_roundw
              case rel => exact ⟨j + 2, by omega, by go_num, Lib.hid (Buf.below_drewN HB2.out _), HT'⟩
              case measure => simp [intOf]; omega
      · obtain rfl : k = n := by omega
        obtain rfl : r = true := by
          rw [HR.out, ← take_all L k (by rw [Hn.out]; exact Nat.le_refl _)]
          exact HT.out
        go_wp2
        go_ret
        exact ⟨rfl, HB.out⟩
end Spn
end Go.Proofs.Ytfmhfhggogjbkaa

/- span.add: a span behind those of a set. -/
set_option linter.unusedVariables false
set_option linter.unusedSimpArgs false
namespace Go.Proofs.Ytfmhfhggogjbkaa
open Go.RowKit Dice
namespace Spn
open Sp (cells2 cells2_snoc cells2_get Spans own_kept own_below own_mono own_shape)
theorem cells2_append (a b : LP) : cells2 (a ++ b) = cells2 a ++ cells2 b := by simp [cells2]
theorem set_last (u : LP) (p : Int × Int) (y : Int) (m : Nat) (hm : m = u.length) : (cells2 (u ++ [p])).set (m * 2 + 1) (.int .i64 y) = cells2 (u ++ [(p.1, y)]) := by
  subst hm
  rw [cells2_append, cells2_append, List.set_append_right _ _ (by rw [cells2_length]; omega), cells2_length]
  congr 1
  have : u.length * 2 + 1 - u.length * 2 = 1 := by omega
  rw [this]
  simp [cells2]
theorem grown_own {w w' : World} {B : Nat} {v : Value} {L : LP} (O : Spans w B v L) (h : Below w.heap.size w w') : Spans w' B v L := own_below O h
/-- Behind add. -/
def Added (w : World) (B : Nat) (v : Value) (L : LP) (e : Ending) (w' : World) : Prop :=
  (∃ r, e = .returned r ∧ Spans w' B r L ∧ ∀ k, r.ownBlock = some k → v.ownBlock = some k ∨ w.heap.size ≤ k) ∧ w.grownBy w' v.ownBlock
theorem grownBy_trans {w w1 w2 : World} {r : Option Nat} (h : w.grownBy w1 r) (k : w1.grownBy w2 r) : w.grownBy w2 r := h.trans k
set_option maxRecDepth 100000 in
set_option maxHeartbeats 4000000 in
theorem add_any {w : World} {B : Nat} {v : Value} {L : LP} (x y : Int) (O : Spans w B v L) (hB : B ≤ w.heap.size) (h9 : L.length ≤ 1000) :
    Calls Try.prog 56 #[v, .agg #[.int .i64 x, .int .i64 y]] w fun e w' => Added w B v (addL L (x, y)) e w' := by
  obtain ⟨i0, hi, hz0, hz1, hz2⟩ := info_get infoS
  have one : Hid (∀ u ∈ [Value.int .i64 x, .int .i64 y], u.oneCell' = true) := Lib.hid (by simp; exact ⟨rfl, rfl⟩)
  obtain ⟨w1, hw1⟩ : ∃ w1, w1 = w.alloc (.cells #[.int .i64 x, .int .i64 y] 49) := ⟨_, rfl⟩
  have W1 := Lib.hid (show Below w.heap.size w w1 by rw [hw1]; exact new_block _)
  have O1 := Lib.hid (own_below O W1.out)
  have K1 := c2 (show w1.heap[w.heap.size]? = some (.cells #[.int .i64 x, .int .i64 y] 49 (0, 0)) by rw [hw1]; exact heap_alloc_new w _)
  have S1 : Hid (w1.heap.size = w.heap.size + 1) := Lib.hid (by rw [hw1]; simp)
  obtain ⟨k0, k1⟩ := K1
  have hB1 : Hid (B ≤ w1.heap.size) := Lib.hid (by rw [S1.out]; omega)
  have HO := Lib.hid O
  have hsh := own_shape O
  clear O
  replace hw1 := Lib.hid hw1
  by_cases h1 : y ≤ x
  · have d1 : decide (y ≤ x) = true := decide_eq_true h1
    have e0 : Hid (addL L (x, y) = L) := Lib.hid (addL_no _ _ h1)
    rw [e0.out]
    rcases hsh with ⟨rfl, hn⟩ | ⟨g, c, rfl, hc, hg⟩
    · go_enter Try.func56, Try.ntmps56
      go_upto_region 1 with fail
      rw [← hw1.out]
      go_wp2_with fail
      go_ret
      exact ⟨⟨_, rfl, O1.out, fun k hk => .inl hk⟩, grown_of_below W1.out⟩
    · go_enter Try.func56, Try.ntmps56
      go_upto_region 1 with fail
      rw [← hw1.out]
      go_wp2_with fail
      go_ret
      exact ⟨⟨_, rfl, O1.out, fun k hk => .inl hk⟩, grown_of_below W1.out⟩
  · have h1' : x < y := by omega
    have d1 : decide (y ≤ x) = false := decide_eq_false h1
    clear h1
    have hb3 := Lib.hid fun q => Sp.Geo_new (w1.drewN q) (.cells #[.int .i64 x, .int .i64 y] 49)
    have W3 := Lib.hid fun q => ((Buf.below_drewN W1.out q).alloc (by show w.heap.size ≤ w1.heap.size; rw [S1.out]; omega) (.cells #[.int .i64 x, .int .i64 y] 49))
    have O3 := Lib.hid fun q => own_below HO.out (W3.out q)
    have hB3 : Hid (∀ q, B ≤ ((w1.drewN q).alloc (.cells #[.int .i64 x, .int .i64 y] 49)).heap.size) := Lib.hid fun q => Nat.le_trans hB (W3.out q).size
    have END : Hid (∀ q gq cq w5, w5.ownsRow B 49 2 (.slice (some ⟨gq, 0, none⟩) (L.length + 1) cq) (L.length + 1) (cells2 L ++ [.int .i64 x, .int .i64 y]) → addL L (x, y) = L ++ [(x, y)] → ((w1.drewN q).alloc (.cells #[.int .i64 x, .int .i64 y] 49)).grownBy w5 v.ownBlock → (v.ownBlock = some gq ∨ gq = ((w1.drewN q).alloc (.cells #[.int .i64 x, .int .i64 y] 49)).heap.size) → Added w B v (addL L (x, y)) (.returned (.slice (some ⟨gq, 0, none⟩) (L.length + 1) cq)) w5) := Lib.hid fun q gq cq w5 O2 he G2 hg2 => by
      rw [he]
      refine ⟨⟨_, rfl, by unfold Spans; rw [cells2_snoc]; simpa using O2, fun k hk => ?_⟩, (grown_of_below (W3.out q)).trans G2⟩
      have : gq = k := by simpa [Value.ownBlock] using hk
      subst this
      exact hg2.imp id fun e => by rw [e]; exact (W3.out q).size
    rcases hsh with ⟨rfl, hn⟩ | ⟨g, c, rfl, hc, hg⟩
    · obtain rfl : L = [] := List.length_eq_zero_iff.1 hn
      have e0 : Hid (addL [] (x, y) = [] ++ [(x, y)]) := Lib.hid (addL_nil _ h1')
      go_enter Try.func56, Try.ntmps56
      go_upto_region 1 with fail
      rw [← hw1.out]
      go_wp2_with fail
      go_quiet (fail)
      go_wp2_with (at_builtin; refine wpList_append_lies _ rfl (.tmp 42) (.tmp 44) 23 rfl B 49 i0 (.agg #[.int .i64 0, .int .i64 0]) 2 16 Try.underlying23 hi hz0 hz1 hz2 rfl (by decide) _ 0 [] rfl (O3.out _) ⟨w1.heap.size, 0, none⟩ 1 1 [.int .i64 x, .int .i64 y] rfl rfl (World.news_of_block (hb3.out _)) one.out (by decide) (by unfold maxLen; omega) (by omega) (hB3.out _) _ rfl ?_; intro gq cq w5 O2 G2 hg2 hl2)
      go_ret
      exact END.out _ _ _ _ O2 e0.out G2 hg2
    · rcases snoc_cases L with rfl | ⟨u, ⟨p1, p2⟩, rfl⟩
      · have e0 : Hid (addL [] (x, y) = [] ++ [(x, y)]) := Lib.hid (addL_nil _ h1')
        go_enter Try.func56, Try.ntmps56
        go_upto_region 1 with fail
        rw [← hw1.out]
        go_wp2_with fail
        go_quiet (fail)
        go_wp2_with (at_builtin; refine wpList_append_lies _ rfl (.tmp 42) (.tmp 44) 23 rfl B 49 i0 (.agg #[.int .i64 0, .int .i64 0]) 2 16 Try.underlying23 hi hz0 hz1 hz2 rfl (by decide) _ 0 [] rfl (O3.out _) ⟨w1.heap.size, 0, none⟩ 1 1 [.int .i64 x, .int .i64 y] rfl rfl (World.news_of_block (hb3.out _)) one.out (by decide) (by unfold maxLen; omega) (by omega) (hB3.out _) _ rfl ?_; intro gq cq w5 O2 G2 hg2 hl2)
        go_ret
        exact END.out _ _ _ _ O2 e0.out G2 hg2
      · obtain ⟨n, hn⟩ : ∃ n, n = (u ++ [(p1, p2)]).length := ⟨_, rfl⟩
        obtain ⟨m, hm⟩ : ∃ m, m = u.length := ⟨_, rfl⟩
        have hnm : n = m + 1 := by rw [hn, hm]; simp
        have k2 : w1.cell? ⟨g, m * 2 + 1, none⟩ = some (.int .i64 p2) := by
          rcases its_of_own O1.out with ⟨h, _⟩ | ⟨g', c', e, _, _, h3⟩
          · cases h
          · cases e
            exact (h3 m (p1, p2) (by rw [hm]; simp)).2
        have e1 : IntKind.i64.wrap ((n : Int) - 1) = m := by rw [IntWalk.i64_in _ ⟨by omega, by omega⟩]; omega
        have b1 : (m : Int) < n := by omega
        have b2 : (0 : Int) ≤ m := by omega
        have d3 : decide (0 < n) = true := decide_eq_true (by omega)
        have d4 : 0 < n := by omega
        replace hnm := Lib.hid hnm
        rw [← hn] at O1 O3 h9 hc END ⊢
        by_cases h2 : x ≤ p2
        · have d2 : decide (x ≤ p2) = true := decide_eq_true h2
          have e0 : Hid (addL (u ++ [(p1, p2)]) (x, y) = u ++ [(p1, max p2 y)]) := Lib.hid (addL_join _ _ _ h1' h2)
          have fz : Hid (∀ q, (w1.drewN q).frozen? ⟨g, m * 2 + 1, none⟩ = false) := Lib.hid fun q => World.ownsRow.frozenAt (own_below O1.out (Buf.below_drewN (Below.refl _ _) q)) _
          have ST : Hid (∀ q, Added w B (.slice (some ⟨g, 0, none⟩) n c) (addL (u ++ [(p1, p2)]) (x, y)) (.returned (.slice (some ⟨g, 0, none⟩) n c)) ((w1.drewN q).setCell ⟨g, m * 2 + 1, none⟩ (.int .i64 (max p2 y)))) := Lib.hid fun q => by
            obtain ⟨s1, s2⟩ := World.ownsRow.stored (own_below O1.out (Buf.below_drewN (Below.refl _ _) q)) (m * 2 + 1) (.int .i64 (max p2 y))
            rw [set_last _ _ _ _ hm] at s1
            refine ⟨⟨_, rfl, by rw [e0.out]; unfold Spans; simpa [hn] using s1, fun k hk => .inl hk⟩, (grown_of_below (Buf.below_drewN W1.out q)).trans s2⟩
          clear END O3 hb3 W3 hB3 O1 hn hm
          go_enter Try.func56, Try.ntmps56
          go_upto_region 1 with fail
          rw [← hw1.out]
          go_wp2_with fail
          go_quiet (fail)
          go_wp2_with fail
          have f0 : w1.frozen? ⟨g, m * 2 + 1, none⟩ = false := fz.out 0
          clear fz
          go_region
          go_wp2_with fail
          go_ret
          exact ST.out _
        · have h2' : p2 < x := by omega
          have d2 : decide (x ≤ p2) = false := decide_eq_false h2
          have e0 : Hid (addL (u ++ [(p1, p2)]) (x, y) = (u ++ [(p1, p2)]) ++ [(x, y)]) := Lib.hid (addL_new _ _ _ h1' h2')
          clear O1 hm
          replace hn := Lib.hid hn
          go_enter Try.func56, Try.ntmps56
          go_upto_region 1 with fail
          rw [← hw1.out]
          go_wp2_with fail
          go_quiet (fail)
          go_wp2_with (at_builtin; refine wpList_append_lies _ rfl (.tmp 42) (.tmp 44) 23 rfl B 49 i0 (.agg #[.int .i64 0, .int .i64 0]) 2 16 Try.underlying23 hi hz0 hz1 hz2 rfl (by decide) _ n (cells2 (u ++ [(p1, p2)])) rfl (O3.out _) ⟨w1.heap.size, 0, none⟩ 1 1 [.int .i64 x, .int .i64 y] rfl rfl (World.news_of_block (hb3.out _)) one.out (by decide) (by unfold maxLen; omega) (by omega) (hB3.out _) _ rfl ?_; intro gq cq w5 O2 G2 hg2 hl2)
          go_ret
          exact END.out _ _ _ _ O2 e0.out G2 hg2
end Spn
end Go.Proofs.Ytfmhfhggogjbkaa

/- slices.SortFunc at api.Span: which numbers its functions and types bear here. -/
set_option linter.unusedVariables false
namespace Go.Proofs.Ytfmhfhggogjbkaa
open Go.Shelf
namespace SpnS
theorem bears_of {P : Program} {f : FuncId} {F B : Func} (h : P.funcs[f]? = some F) (hn : (F.name == "runtime.NumGoroutine") = false) (e : F = { B with name := F.name }) : Bears P f B := ⟨F.name, hn, h.trans (congrArg some e)⟩
def ren : Ren where
  f := fun | 6 => 58 | 14 => 71 | 15 => 72 | 20 => 74 | 21 => 75 | 22 => 76 | 23 => 77 | 24 => 78 | 25 => 79 | 26 => 80 | 27 => 81 | 28 => 82 | 29 => 83 | 46 => 84 | 47 => 85 | 48 => 86 | 49 => 87 | 50 => 88 | 57 => 89 | n => n
  t := fun | 0 => 0 | 3 => 3 | 4 => 4 | 5 => 5 | 9 => 9 | 22 => 23 | 24 => 49 | 25 => 70 | 39 => 79 | 45 => 82 | 46 => 83 | 50 => 42 | 53 => 89 | 55 => 71 | 66 => 91 | 70 => 95 | 76 => 97 | 77 => 98 | n => n
  g := fun n => n
theorem lays : SlLaysF0.n6 Try.prog ren where
  mixed := by kernel_rfl
  f6 := bears_of Try.func58 (by kernel_rfl) (by kernel_rfl)
  f14 := bears_of Try.func71 (by kernel_rfl) (by kernel_rfl)
  f15 := Try.func72.trans (congrArg some (by kernel_rfl))
  f20 := bears_of Try.func74 (by kernel_rfl) (by kernel_rfl)
  f21 := bears_of Try.func75 (by kernel_rfl) (by kernel_rfl)
  f22 := bears_of Try.func76 (by kernel_rfl) (by kernel_rfl)
  f23 := bears_of Try.func77 (by kernel_rfl) (by kernel_rfl)
  f24 := bears_of Try.func78 (by kernel_rfl) (by kernel_rfl)
  f25 := bears_of Try.func79 (by kernel_rfl) (by kernel_rfl)
  f26 := bears_of Try.func80 (by kernel_rfl) (by kernel_rfl)
  f27 := bears_of Try.func81 (by kernel_rfl) (by kernel_rfl)
  f28 := Try.func82.trans (congrArg some (by kernel_rfl))
  f29 := Try.func83.trans (congrArg some (by kernel_rfl))
  f46 := bears_of Try.func84 (by kernel_rfl) (by kernel_rfl)
  f47 := Try.func85.trans (congrArg some (by kernel_rfl))
  f48 := Try.func86.trans (congrArg some (by kernel_rfl))
  f49 := bears_of Try.func87 (by kernel_rfl) (by kernel_rfl)
  f50 := bears_of Try.func88 (by kernel_rfl) (by kernel_rfl)
  f57 := bears_of Try.func89 (by kernel_rfl) (by kernel_rfl)
  t0 := Try.underlying0
  a0 := Try.isAgg0
  z0 := Try.sizeOf0
  v0 := Try.zeroValue0
  t3 := Try.underlying3
  a3 := Try.isAgg3
  z3 := Try.sizeOf3
  v3 := Try.zeroValue3
  t4 := Try.underlying4
  a4 := Try.isAgg4
  z4 := Try.sizeOf4
  v4 := Try.zeroValue4
  t5 := Try.underlying5
  a5 := Try.isAgg5
  z5 := Try.sizeOf5
  v5 := Try.zeroValue5
  t9 := Try.underlying9
  a9 := Try.isAgg9
  z9 := Try.sizeOf9
  v9 := Try.zeroValue9
  t22 := Try.underlying23
  a22 := Try.isAgg23
  z22 := Try.sizeOf23
  v22 := Try.zeroValue23
  t25 := Try.underlying70
  a25 := Try.isAgg70
  z25 := Try.sizeOf70
  v25 := Try.zeroValue70
  t39 := Try.underlying79
  a39 := Try.isAgg79
  z39 := Try.sizeOf79
  v39 := Try.zeroValue79
  t45 := Try.underlying82
  a45 := Try.isAgg82
  z45 := Try.sizeOf82
  v45 := Try.zeroValue82
  t46 := Try.underlying83
  a46 := Try.isAgg83
  z46 := Try.sizeOf83
  v46 := Try.zeroValue83
  t50 := Try.underlying42
  a50 := Try.isAgg42
  z50 := Try.sizeOf42
  v50 := Try.zeroValue42
  t53 := Try.underlying89
  a53 := Try.isAgg89
  z53 := Try.sizeOf89
  v53 := Try.zeroValue89
  t55 := Try.underlying71
  a55 := Try.isAgg71
  z55 := Try.sizeOf71
  v55 := Try.zeroValue71
  t66 := Try.underlying91
  a66 := Try.isAgg91
  z66 := Try.sizeOf91
  v66 := Try.zeroValue91
  t70 := Try.underlying95
  a70 := Try.isAgg95
  z70 := Try.sizeOf95
  v70 := Try.zeroValue95
  t76 := Try.underlying97
  a76 := Try.isAgg97
  z76 := Try.sizeOf97
  v76 := Try.zeroValue97
  t77 := Try.underlying98
  a77 := Try.isAgg98
  z77 := Try.sizeOf98
  v77 := Try.zeroValue98
end SpnS
end Go.Proofs.Ytfmhfhggogjbkaa

/- slices.SortFunc at spans, by where they begin; span.Normal. -/
set_option linter.unusedVariables false
set_option linter.unusedSimpArgs false
namespace Go.Proofs.Ytfmhfhggogjbkaa
open Go.RowKit Dice
namespace Spn
open Sp (cells2 cells2_snoc cells2_get Spans own_kept own_below own_mono own_shape)
def encS (x : Int × Int) : List Value := [.int .i64 x.1, .int .i64 x.2]
theorem ltS (x y : Int × Int) : ltOf (fun x y : Int × Int => Lib.compareInt x.1 y.1) x y = decide (x.1 < y.1) := by
  unfold ltOf Lib.compareInt
  by_cases h1 : x.1 < y.1
  · simp [h1]
  · by_cases h2 : y.1 < x.1 <;> simp [h1, h2]
theorem swoS : Go.Sort.SWO (ltOf fun x y : Int × Int => Lib.compareInt x.1 y.1) where
  irrefl x := by rw [ltS]; simp
  trans x y z h1 h2 := by rw [ltS] at *; simp at *; omega
  ntrans x y z h1 h2 := by rw [ltS] at *; simp at *; omega
theorem holds_of_own {w : World} {B g c n : Nat} {L : LP} (hn : n = L.length) (O : w.ownsRow B 49 2 (.slice (some ⟨g, 0, none⟩) n c) n (cells2 L)) : Go.Sort.HoldsK encS 2 w g 0 L.toArray := by
  intro j hj
  have hj' : j < L.length * 2 := by simpa using hj
  rw [Nat.zero_add]
  refine ⟨?_, O.frozenAt j⟩
  rw [O.cellAt j (by omega), Go.Sort.get_flatK _ _ _ _ (by simpa using hj')]
  have hk : j / 2 < L.length := by omega
  obtain ⟨a, b⟩ := cells2_get L (j / 2) _ (List.getElem?_eq_getElem hk)
  have e : (L.toArray)[j / 2]! = L[j / 2] := by simp [hk]
  rw [e]
  obtain h | h : j % 2 = 0 ∨ j % 2 = 1 := by omega
  · have e2 : (cells2 L)[j]? = some (.int .i64 L[j / 2].1) := by rw [← a]; congr 1; omega
    rw [e2, h]
    simp [encS]
  · have e2 : (cells2 L)[j]? = some (.int .i64 L[j / 2].2) := by rw [← b]; congr 1; omega
    rw [e2, h]
    simp [encS]
theorem grown_sort {w : World} {enc : Int × Int → List Value} {k g off m : Nat} {d : Array (Int × Int)} {os : Array Obj} : w.grownBy (sortWorldK enc k w g off m d os) (some g) := by
  refine ⟨rfl, rfl, rfl, size_sortWorldK_c enc k w g off m d os, fun j hj hne => ?_⟩
  show ((w.heap.modify g _) ++ os)[j]? = _
  rw [Array.getElem?_append_left (by simpa using hj), Array.getElem?_modify, if_neg (fun e => hne (by rw [e]))]
theorem cmpc_any (x y : Int) (w : World) : Calls Try.prog 60 #[.int .i64 x, .int .i64 y] w fun e w' => e = .returned (.int .i64 (Lib.compareInt x y)) ∧ w' = w := by
  have N : Hid (∀ (x : Int) (w : World), Calls Try.prog 73 #[.int .i64 x] w fun e w' => e = .returned (.bool false) ∧ w' = w) := Lib.hid fun x w => by
    go_enter Try.func73, Try.ntmps73
    go_wp2
    go_ret
    exact ⟨rfl, rfl⟩
  rcases Int.lt_trichotomy x y with h | rfl | h
  · have e : Hid (Lib.compareInt x y = -1) := Lib.hid (by unfold Lib.compareInt; rw [if_pos h])
    rw [e.out]
    go_enter Try.func60, Try.ntmps60
    go_wp2_with (go_at_call 73; with_reducible refine (N.out _ _).mono ?_; rintro e w1 ⟨rfl, rfl⟩)
    go_ret
    exact ⟨rfl, rfl⟩
  · have e : Hid (Lib.compareInt x x = 0) := Lib.hid (by unfold Lib.compareInt; rw [if_neg (by omega), if_neg (by omega)])
    rw [e.out]
    go_enter Try.func60, Try.ntmps60
    go_wp2_with (go_at_call 73; with_reducible refine (N.out _ _).mono ?_; rintro e w1 ⟨rfl, rfl⟩)
    go_ret
    exact ⟨rfl, rfl⟩
  · have e : Hid (Lib.compareInt x y = 1) := Lib.hid (by unfold Lib.compareInt; rw [if_neg (by omega), if_pos (by omega)])
    have h' : ¬ x < y := by omega
    rw [e.out]
    go_enter Try.func60, Try.ntmps60
    go_wp2_with (go_at_call 73; with_reducible refine (N.out _ _).mono ?_; rintro e w1 ⟨rfl, rfl⟩)
    go_ret
    exact ⟨rfl, rfl⟩
theorem less_any (x y : Int × Int) (W : World) : Calls Try.prog 59 #[.agg #[.int .i64 x.1, .int .i64 x.2], .agg #[.int .i64 y.1, .int .i64 y.2]] W fun e w' => e = .returned (.int .i64 (Lib.compareInt x.1 y.1)) ∧ ∃ q os', w' = Go.Sort.grow (W.drewN q) os' := by
  have hcon := Lib.hid fun W' => cmpc_any x.1 y.1 W'
  generalize Lib.compareInt x.1 y.1 = r at hcon ⊢
  go_enter Try.func59, Try.ntmps59
  go_wp2_with (go_at_call 60; with_reducible refine (hcon.out _).mono ?_; rintro e w' ⟨rfl, rfl⟩)
  go_ret
  exact ⟨rfl, 0, _, by rw [Go.Sort.alloc_eq_grow, Go.Sort.alloc_eq_grow, Go.Sort.grow_grow]; rfl⟩
theorem sort_any {w : World} {B g c n : Nat} {L : LP} (hn : n = L.length) (h9 : n ≤ 1000) (O : w.ownsRow B 49 2 (.slice (some ⟨g, 0, none⟩) n c) n (cells2 L)) (hc : n ≤ c) (hg : g < w.heap.size) :
    Calls Try.prog 58 #[.slice (some ⟨g, 0, none⟩) n c, .func (.func 59) #[] #[]] w fun e w' => e = .returned (.tuple #[]) ∧ ∃ L', L'.length = n ∧ L.Perm L' ∧ (∀ (i j : Nat) (p q : Int × Int), i < j → L'[i]? = some p → L'[j]? = some q → p.1 ≤ q.1) ∧ Its w' (.slice (some ⟨g, 0, none⟩) n c) L' ∧ w.grownBy w' (some g) := by
  have eg : ∀ args w, (callFunc 59 args).run Try.prog w = .ok (.enter 59 args) w := enters_of Try.func59 (by kernel_rfl) rfl
  have hH := holds_of_own hn O
  have hcon := AnyQ.slices_SortFunc SpnS.lays 2 Try.isAgg49 Try.sizeOf49 encS (fun _ => rfl) (fun x v hv => by simp [encS] at hv; rcases hv with rfl | rfl <;> rfl) (fun x y => Lib.compareInt x.1 y.1) swoS 59 #[] g 0 c L.toArray w eg (fun _ _ _ _ x y => less_any x y _) hH hg (by simp; omega)
  change Calls Try.prog 58 _ _ _ at hcon
  have es : L.toArray.size = n := by simp [hn]
  rw [es] at hcon
  refine hcon.mono ?_
  rintro e w' ⟨rfl, d', m, os, ⟨p1, _, p3⟩, hs, rfl⟩
  have hsz : d'.size = n := by rw [p1, es]
  refine ⟨rfl, d'.toList, by simpa using hsz, ?_, ?_, ?_, grown_sort⟩
  · have a : (d'.extract 0 n).toList = d'.toList := by rw [← hsz]; simp
    have b : (L.toArray.extract 0 n).toList = L := by rw [hn]; simp
    rw [a, b] at p3
    exact p3.symm
  · intro i j p q hij hp hq
    have hi : i < d'.size := by simpa using (List.getElem?_eq_some_iff.1 hp).1
    have hj : j < d'.size := by simpa using (List.getElem?_eq_some_iff.1 hq).1
    have := hs i j (Nat.zero_le _) hij (by omega)
    rw [ltS] at this
    have e1 : d'[i]! = p := by rw [getElem!_pos d' i hi]; exact (Array.getElem?_eq_some_iff.1 (by simpa using hp)).2
    have e2 : d'[j]! = q := by rw [getElem!_pos d' j hj]; exact (Array.getElem?_eq_some_iff.1 (by simpa using hq)).2
    rw [e1, e2] at this
    simpa using this
  · refine .inr ⟨g, c, by simp [hsz], by simp; omega, Nat.lt_of_lt_of_le hg (grown_sort).size, fun k p hp => ?_⟩
    have hk : k < d'.size := by simpa using (List.getElem?_eq_some_iff.1 hp).1
    have hH' := holdsK_sortWorldK_c encS 2 w g 0 L.toArray d' m os hH hg (by rw [hsz, es])
    have e1 : d'[k]! = p := by rw [getElem!_pos d' k hk]; exact (Array.getElem?_eq_some_iff.1 (by simpa using hp)).2
    have a := (hH'.cell (i := k) (c := 0) hk (by omega)).1
    have b := (hH'.cell (i := k) (c := 1) hk (by omega)).1
    rw [e1, Nat.zero_add] at a b
    exact ⟨a, b⟩
/-- What ends a walk over a sorted list. -/
theorem le_sorted {L : LP} (hs : ∀ (i j : Nat) (p q : Int × Int), i < j → L[i]? = some p → L[j]? = some q → p.1 ≤ q.1) {k : Nat} {s : Int × Int} (hk : L[k]? = some s) : Le (L.take k) s.1 := by
  intro p hp
  obtain ⟨i, hi, e⟩ := List.mem_iff_getElem.1 hp
  have hik : i < k := by simp at hi; omega
  exact hs i k p s hik (by rw [← e, List.getElem_take]; exact List.getElem?_eq_getElem _) hk
theorem le_take_succ {L N : LP} {k : Nat} {s : Int × Int} (hk : L[k]? = some s) (h : Le N s.1) (f : Int) (hf : Le (L.take (k + 1)) f) : Le N f := by
  refine h.mono (hf s ?_)
  rw [List.take_add_one, hk]
  simp
set_option maxRecDepth 100000 in
set_option maxHeartbeats 4000000 in
theorem normal_any {w : World} {v : Value} {L : LP} (h : Its w v L) (h9 : L.length ≤ 500) :
    Calls Try.prog 22 #[v] w fun e w' => (∃ r N, e = .returned r ∧ Spans w' w.heap.size r N ∧ Is N (hasB L) ∧ N.length ≤ L.length) ∧ Below w.heap.size w w' := by
  have H := Lib.hid h
  by_cases hc : Canon L
  · have HV := Lib.hid (valid_any true (by simp [hc]) h (by omega))
    have HC := Lib.hid hc
    clear h hc
    go_enter Try.func22, Try.ntmps22
    go_wp2_with (first
      | (go_at_call 24; with_reducible refine HV.out.mono ?_; rintro e w1 ⟨rfl, b1⟩; have C1 := Lib.hid (clone_any (H.out.keep b1) (by omega)); replace b1 := Lib.hid b1)
      | (go_at_call 57; with_reducible refine C1.out.mono ?_; rintro e w2 ⟨⟨r, rfl, O2⟩, b2⟩))
    go_ret
    exact ⟨⟨_, L, rfl, own_mono O2 b1.out.size, Is.self HC.out, Nat.le_refl _⟩, Buf.then_ b1.out b2⟩
  · have HV := Lib.hid (valid_any false (by simp [hc]) h (by omega))
    have hne : Hid (L ≠ []) := Lib.hid (fun e => hc (e ▸ Canon.nil))
    clear h hc
    go_enter Try.func22, Try.ntmps22
    go_wp2_with (first
      | (go_at_call 24; with_reducible refine HV.out.mono ?_; rintro e w1 ⟨rfl, b1⟩; have C1 := Lib.hid (clone_any (H.out.keep b1) (by omega)); replace b1 := Lib.hid b1)
      | (go_at_call 57; with_reducible refine C1.out.mono ?_; rintro e w2 ⟨⟨r, rfl, O2⟩, b2⟩))
    rcases own_shape O2 with ⟨rfl, hn⟩ | ⟨g, c, rfl, hcc, hg⟩
    · exact absurd (List.length_eq_zero_iff.1 hn) hne.out
    · obtain ⟨n, hn⟩ : ∃ n, n = L.length := ⟨_, rfl⟩
      have hgB := (O2.lt g rfl).1
      unfold Spans at O2
      rw [← hn] at O2 h9 hcc ⊢
      have HO := Lib.hid O2
      have B2 := Lib.hid (Buf.then_ b1.out b2)
      have hw1 := b1.out.size
      have hw2 := b2.size
      replace hn := Lib.hid hn
      clear O2 b1 b2 HV C1 H
      refine (sort_any hn.out (by omega) HO.out hcc hg).mono ?_
      rintro e w3 ⟨rfl, L', hl, hperm, hs, I3, G3⟩
      have HP := Lib.hid hperm
      have HS := Lib.hid hs
      have HL := Lib.hid hl
      have HI := Lib.hid I3
      have W3 : Hid (Below w.heap.size w w3) := Lib.hid (B2.out.grown G3 (Nat.le_trans hw1 hw2) (fun k hk => by cases hk; omega))
      have hg3 : g < w3.heap.size := Nat.lt_of_lt_of_le hg G3.size
      have hcell : Hid (∀ (k : Nat) (p : Int × Int), L'[k]? = some p → w3.cell? ⟨g, k * 2, none⟩ = some (.int .i64 p.1) ∧ w3.cell? ⟨g, k * 2 + 1, none⟩ = some (.int .i64 p.2)) := by
        rcases I3 with ⟨h, _⟩ | ⟨g', c', e, _, _, h⟩
        · cases h
        · cases e; exact Lib.hid h
      have hw3 : Hid (w.heap.size ≤ w3.heap.size) := Lib.hid W3.out.size
      have A0 := Lib.hid (Below.refl w3.heap.size w3)
      have Z0 : Hid (Spans w3 w3.heap.size (.slice none 0 0) []) := Lib.hid (World.ownsRow_nil _ _ _ _)
      clear hperm hs I3 G3 HO B2 hl hcc
      go_wp2_with fail
      go_loopw [17, 4] (fun i s wr => ∃ (k : Nat) (N : LP), k ≤ n ∧ i = .int .i64 k ∧ Hid (Spans wr w3.heap.size s N) ∧ Hid (Is N (hasB (L'.take k))) ∧ Hid (N.length ≤ k) ∧ Hid (∀ f, Le (L'.take k) f → Le N f) ∧ Hid (Below w3.heap.size w3 wr)) (fun i _ _ => n - (intOf i).toNat)
      case atStart => exact ⟨0, [], Nat.zero_le _, rfl, Z0, Lib.hid (Is.nil (by simp [hasB])), Lib.hid (Nat.le_refl _), Lib.hid (fun f _ => Le.nil f), A0⟩
      case round =>
        clear A0 Z0
        obtain ⟨k, N, hk, rfl, HO, HJ, HN, HF, HB⟩ := hrel
        by_cases hlt : k < n
        · obtain ⟨⟨f, t⟩, hp⟩ : ∃ p, L'[k]? = some p := ⟨L'[k]'(by rw [HL.out]; exact hlt), List.getElem?_eq_getElem _⟩
          obtain ⟨q0, q1⟩ := hcell.out k _ hp
          have k0 := (HB.out.cell (p := ⟨g, _, none⟩) hg3).trans q0
          have k1 := (HB.out.cell (p := ⟨g, _, none⟩) hg3).trans q1
          dsimp only at k0 k1
          have hle := HF.out f (le_sorted HS.out hp)
          have B1 := Lib.hid (HB.out.alloc HB.out.size (.cells #[.int .i64 f, .int .i64 t] 49))
          have O1 := Lib.hid (own_below HO.out (new_block (.cells #[.int .i64 f, .int .i64 t] 49)))
          have hn1 := HN.out
          have C := Lib.hid (add_any f t O1.out B1.out.size (by omega))
          have A2 := Lib.hid (HJ.out.add (s := (f, t)) hle)
          have A3 := addL_spec HJ.out.canon (s := (f, t)) hle
          have A4 : Hid (Is (addL N (f, t)) (hasB (L'.take (k + 1)))) := Lib.hid (A2.out.congr fun x => (take_succ_has L' k _ hp x).symm)
          have A5 : Hid ((addL N (f, t)).length ≤ k + 1) := Lib.hid (by have := A3.2.2.2; omega)
          have A6 : Hid (∀ f', Le (L'.take (k + 1)) f' → Le (addL N (f, t)) f') := Lib.hid fun f' hf => le_take_succ hp A3.2.2.1 f' hf
          clear q0 q1 hp A3 hle A2 HJ HN HF
          go_wp2_with fail
          refine C.out.mono ?_
          rintro e w4 ⟨⟨s', rfl, O4, hk4⟩, G4⟩
          have B4 := Lib.hid (B1.out.grown G4 B1.out.size (fun k hk => (O1.out.lt k hk).1))
          go_wp2_with fail
          go_roundw
          case rel => exact ⟨k + 1, addL N (f, t), by omega, by go_num, Lib.hid O4, A4, A5, A6, B4⟩
          case measure => simp [intOf]; omega
        · obtain rfl : k = n := by omega
          go_wp2_with fail
          go_ret
          refine ⟨⟨_, N, rfl, own_mono HO.out hw3.out, ?_, by rw [← hn.out]; exact HN.out⟩, W3.out.trans (HB.out.mono hw3.out)⟩
          rw [take_all L' k (by rw [HL.out]; exact Nat.le_refl _)] at HJ
          exact HJ.out.congr fun x => hasB_perm HP.out.symm x
end Spn
end Go.Proofs.Ytfmhfhggogjbkaa

/- span.Union. -/
set_option linter.unusedVariables false
set_option linter.unusedSimpArgs false
namespace Go.Proofs.Ytfmhfhggogjbkaa
open Go.RowKit Dice
namespace Spn
open Sp (cells2 cells2_snoc cells2_get Spans own_kept own_below own_mono own_shape)
/-- A list as a slice whose address is a letter. -/
theorem its_form {w : World} {v : Value} {L : LP} (h : Its w v L) : ∃ ad c, v = .slice ad L.length c ∧ L.length ≤ c ∧ ∀ (k : Nat) (p : Int × Int), L[k]? = some p → ∃ g, ad = some ⟨g, 0, none⟩ ∧ g < w.heap.size ∧ w.cell? ⟨g, k * 2, none⟩ = some (.int .i64 p.1) ∧ w.cell? ⟨g, k * 2 + 1, none⟩ = some (.int .i64 p.2) := by
  rcases h with ⟨rfl, rfl⟩ | ⟨g, c, rfl, hc, hg, h⟩
  · exact ⟨none, 0, rfl, Nat.le_refl _, fun k p hp => by simp at hp⟩
  · exact ⟨_, c, rfl, hc, fun k p hp => ⟨g, rfl, hg, h k p hp⟩⟩
/-- Two lists walked side by side: i of the one and k of the other are in the set. -/
structure Un (A B : LP) (i k : Nat) (N : LP) : Prop where
  is : Is N (fun x => hasB (A.take i) x || hasB (B.take k) x)
  len : N.length ≤ i + k
  left : ∀ q, A[i]? = some q → Le N q.1
  right : ∀ q, B[k]? = some q → Le N q.1
theorem Un.start (A B : LP) : Un A B 0 0 [] := ⟨Is.nil (by simp [hasB]), Nat.le_refl _, fun _ _ => Le.nil _, fun _ _ => Le.nil _⟩
theorem Un.swap {A B : LP} {i k : Nat} {N : LP} (h : Un A B i k N) : Un B A k i N := ⟨h.is.congr fun x => Bool.or_comm _ _, by have := h.len; omega, h.right, h.left⟩
theorem Un.step {A B : LP} {i k : Nat} {N : LP} (hA : Canon A) (h : Un A B i k N) {p : Int × Int} (hp : A[i]? = some p) (hq : ∀ q, B[k]? = some q → p.1 ≤ q.1) : Un A B (i + 1) k (addL N p) := by
  have hl := h.left p hp
  have A3 := addL_spec h.is.canon hl
  refine ⟨(h.is.add hl).congr fun x => ?_, by have := A3.2.2.2; have := h.len; omega, fun q hq' => A3.2.2.1.mono ?_, fun q hq' => A3.2.2.1.mono (hq q hq')⟩
  · rw [take_succ_has A i p hp]
    cases hasB (A.take i) x <;> cases hasB (B.take k) x <;> cases decide (p.1 ≤ x ∧ x < p.2) <;> rfl
  · have := hA.get (Nat.lt_succ_self i) hp hq'
    have := hA.at hp
    omega
theorem Un.stop {A B : LP} {i k : Nat} {N : LP} (h : Un A B i k N) (hi : A.length ≤ i) (hk : B.length ≤ k) : Is N (fun x => hasB A x || hasB B x) := by
  have := h.is
  rwa [take_all A i hi, take_all B k hk] at this
set_option maxRecDepth 100000 in
set_option maxHeartbeats 4000000 in
theorem union_any {w : World} {va vb : Value} {A B : LP} (ha : Its w va A) (hb : Its w vb B) (h9a : A.length ≤ 200) (h9b : B.length ≤ 200) :
    Calls Try.prog 16 #[va, vb] w fun e w' => (∃ r N, e = .returned r ∧ Spans w' w.heap.size r N ∧ Is N (fun x => hasB A x || hasB B x) ∧ N.length ≤ A.length + B.length) ∧ Below w.heap.size w w' := by
  obtain ⟨i0, hi, hz0, hz1, hz2⟩ := info_get infoS
  have C1 := Lib.hid (normal_any ha (by omega))
  replace hb := Lib.hid hb
  clear ha
  go_enter Try.func16, Try.ntmps16
  go_wp2_with fail
  refine C1.out.mono ?_
  rintro e w1 ⟨⟨ra, Na, rfl, Oa, Ia, la⟩, b1⟩
  have C2 := Lib.hid (normal_any (hb.out.keep b1) (by omega))
  go_wp2_with fail
  refine C2.out.mono ?_
  rintro e w2 ⟨⟨rb, Nb, rfl, Ob, Ib, lb⟩, b2⟩
  have hw1 : w.heap.size ≤ w1.heap.size := b1.size
  have hw2 : w1.heap.size ≤ w2.heap.size := b2.size
  have W2 := Lib.hid (Buf.then_ b1 b2)
  obtain ⟨ad, c, rfl, hc, fa⟩ := its_form (its_of_own (own_below Oa b2))
  obtain ⟨ad', c', rfl, hc', fb⟩ := its_form (its_of_own Ob)
  obtain ⟨n, hn⟩ : ∃ n, n = Na.length := ⟨_, rfl⟩
  obtain ⟨m, hm⟩ : ∃ m, m = Nb.length := ⟨_, rfl⟩
  rw [← hn] at hc la ⊢
  rw [← hm] at hc' lb ⊢
  have hn9 : n ≤ 200 := by omega
  have hm9 : m ≤ 200 := by omega
  have FA := Lib.hid fa
  have FB := Lib.hid fb
  have HA := Lib.hid Ia
  have HBb := Lib.hid Ib
  have LA := Lib.hid la
  have LB := Lib.hid lb
  have mk1 : Hid (i0.bytes * (n + m) ≤ 281474976710656) := Lib.hid (by rw [hz2]; omega)
  have mk2 : Hid (n + m ≤ maxLen) := Lib.hid (by unfold maxLen; omega)
  replace hn := Lib.hid hn
  replace hm := Lib.hid hm
  clear Oa Ob b1 b2 fa fb Ia Ib la lb C1 C2 hb
  go_wp2_with (refine wpList_make_own _ rfl _ _ 23 rfl w2.heap.size 49 i0 (.agg #[.int .i64 0, .int .i64 0]) 2 Try.underlying23 hi hz0 hz1 .i64 .i64 _ (n + m) rfl rfl (by push_cast; omega) mk1.out mk2.out (Nat.le_refl _) ?_; intro w3 O3 G3)
  have B3 : Hid (Below w2.heap.size w2 w3) := Lib.hid ((Below.refl _ _).grown G3 (Nat.le_refl _) (fun k hk => by cases hk))
  replace O3 : Hid (Spans w3 w2.heap.size (.slice (some ⟨w2.heap.size, 0, none⟩) 0 (n + m)) []) := Lib.hid O3
  clear G3
  go_loopw [5, 6, 7] (fun s si sk wr => ∃ (i k : Nat) (N : LP), i ≤ n ∧ k ≤ m ∧ si = .int .i64 i ∧ sk = .int .i64 k ∧ Hid (Spans wr w2.heap.size s N) ∧ Hid (Un Na Nb i k N) ∧ Hid (Below w2.heap.size w2 wr)) (fun _ si sk _ => (n - (intOf si).toNat) + (m - (intOf sk).toNat))
  case atStart => exact ⟨0, 0, [], Nat.zero_le _, Nat.zero_le _, rfl, rfl, O3, Lib.hid (Un.start _ _), B3⟩
  case round =>
    clear O3 B3
    obtain ⟨i, k, N, hi9, hk9, rfl, rfl, HO, HU, HB⟩ := hrel
    have goA : ∀ f t g, Na[i]? = some (f, t) → ad = some ⟨g, 0, none⟩ → g < w2.heap.size ∧ wr.cell? ⟨g, i * 2, none⟩ = some (.int .i64 f) ∧ wr.cell? ⟨g, i * 2 + 1, none⟩ = some (.int .i64 t) := fun f t g hp he => by
      obtain ⟨g', e, h1, h2, h3⟩ := FA.out i _ hp
      rw [he] at e; cases e
      exact ⟨h1, (HB.out.cell (p := ⟨g, _, none⟩) h1).trans h2, (HB.out.cell (p := ⟨g, _, none⟩) h1).trans h3⟩
    have goB : ∀ f t g, Nb[k]? = some (f, t) → ad' = some ⟨g, 0, none⟩ → g < w2.heap.size ∧ wr.cell? ⟨g, k * 2, none⟩ = some (.int .i64 f) ∧ wr.cell? ⟨g, k * 2 + 1, none⟩ = some (.int .i64 t) := fun f t g hp he => by
      obtain ⟨g', e, h1, h2, h3⟩ := FB.out k _ hp
      rw [he] at e; cases e
      exact ⟨h1, (HB.out.cell (p := ⟨g, _, none⟩) h1).trans h2, (HB.out.cell (p := ⟨g, _, none⟩) h1).trans h3⟩
    have hlen := HU.out.len
    by_cases hin : i < n
    · obtain ⟨⟨f, t⟩, hp⟩ : ∃ p, Na[i]? = some p := ⟨Na[i]'(by rw [← hn.out]; exact hin), List.getElem?_eq_getElem _⟩
      obtain ⟨g, rfl, _, _, _⟩ := FA.out i _ hp
      obtain ⟨hg, k0, k1⟩ := goA f t g hp rfl
      have C := fun q => add_any f t (own_below HO.out (Buf.below_drewN (Below.refl _ wr) q)) HB.out.size (by omega)
      replace C := Lib.hid C
      have bi : (i : Int) < n := by omega
      by_cases hkm : k < m
      · obtain ⟨⟨f2, t2⟩, hp2⟩ : ∃ p, Nb[k]? = some p := ⟨Nb[k]'(by rw [← hm.out]; exact hkm), List.getElem?_eq_getElem _⟩
        obtain ⟨g2, rfl, _, _, _⟩ := FB.out k _ hp2
        obtain ⟨hg2, j0, j1⟩ := goB f2 t2 g2 hp2 rfl
        have C' := fun q => add_any f2 t2 (own_below HO.out (Buf.below_drewN (Below.refl _ wr) q)) HB.out.size (by omega)
        replace C' := Lib.hid C'
        have bk : (k : Int) < m := by omega
        have d1 : ((k : Int) == (m : Int)) = false := by simp; omega
        have d1' : decide ((k : Int) = (m : Int)) = false := by simp; omega
        have d1'' : decide (k = m) = false := by simp; omega
        have d2 : decide (i < n) = true := decide_eq_true hin
        by_cases hle : f ≤ f2
        · have U := Lib.hid (HU.out.step HA.out.canon hp (fun q hq => by rw [hp2] at hq; cases hq; exact hle))
          have d3 : decide (f ≤ f2) = true := decide_eq_true hle
          clear goA goB HU C'
          replace hp := Lib.hid hp
          replace hp2 := Lib.hid hp2
          go_wp2_with fail
          go_quiet (fail)
          go_wp2_with fail
          refine (C.out _).mono ?_
          rintro e w4 ⟨⟨s', rfl, O4, hk4⟩, G4⟩
          have B4 := Lib.hid ((Buf.below_drewN HB.out _).grown G4 HB.out.size (fun k hk => (HO.out.lt k hk).1))
          clear HB HO
          go_wp2_with fail
          go_roundw
          case rel => exact ⟨i + 1, k, _, by omega, by omega, by go_num, by go_num, Lib.hid O4, U, B4⟩
          case measure => simp [intOf]; omega
        · have U := Lib.hid (Un.swap (HU.out.swap.step HBb.out.canon hp2 (fun q hq => by rw [hp] at hq; cases hq; show f2 ≤ f; omega)))
          have d3 : decide (f ≤ f2) = false := decide_eq_false hle
          clear goA goB HU C
          replace hp := Lib.hid hp
          replace hp2 := Lib.hid hp2
          go_wp2_with fail
          go_quiet (fail)
          go_wp2_with fail
          refine (C'.out _).mono ?_
          rintro e w4 ⟨⟨s', rfl, O4, hk4⟩, G4⟩
          have B4 := Lib.hid ((Buf.below_drewN HB.out _).grown G4 HB.out.size (fun k hk => (HO.out.lt k hk).1))
          clear HB HO
          go_wp2_with fail
          go_roundw
          case rel => exact ⟨i, k + 1, _, by omega, by omega, by go_num, by go_num, Lib.hid O4, U, B4⟩
          case measure => simp [intOf]; omega
      · obtain rfl : k = m := by omega
        have U := Lib.hid (HU.out.step HA.out.canon hp (fun q hq => by have := (List.getElem?_eq_some_iff.1 hq).1; rw [← hm.out] at this; omega))
        have d2 : decide (i < n) = true := decide_eq_true hin
        clear goA goB HU
        replace hp := Lib.hid hp
        go_wp2_with fail
        go_quiet (fail)
        go_wp2_with fail
        refine (C.out _).mono ?_
        rintro e w4 ⟨⟨s', rfl, O4, hk4⟩, G4⟩
        have B4 := Lib.hid ((Buf.below_drewN HB.out _).grown G4 HB.out.size (fun k hk => (HO.out.lt k hk).1))
        clear HB HO
        go_wp2_with fail
        go_roundw
        case rel => exact ⟨i + 1, k, _, by omega, by omega, by go_num, by go_num, Lib.hid O4, U, B4⟩
        case measure => simp [intOf]; omega
    · obtain rfl : i = n := by omega
      by_cases hkm : k < m
      · obtain ⟨⟨f2, t2⟩, hp2⟩ : ∃ p, Nb[k]? = some p := ⟨Nb[k]'(by rw [← hm.out]; exact hkm), List.getElem?_eq_getElem _⟩
        obtain ⟨g2, rfl, _, _, _⟩ := FB.out k _ hp2
        obtain ⟨hg2, j0, j1⟩ := goB f2 t2 g2 hp2 rfl
        have C' := fun q => add_any f2 t2 (own_below HO.out (Buf.below_drewN (Below.refl _ wr) q)) HB.out.size (by omega)
        replace C' := Lib.hid C'
        have bk : (k : Int) < m := by omega
        have d1 : ((k : Int) == (m : Int)) = false := by simp; omega
        have d1' : decide ((k : Int) = (m : Int)) = false := by simp; omega
        have d1'' : decide (k = m) = false := by simp; omega
        have U := Lib.hid (Un.swap (HU.out.swap.step HBb.out.canon hp2 (fun q hq => by have := (List.getElem?_eq_some_iff.1 hq).1; rw [← hn.out] at this; omega)))
        clear goA goB HU
        replace hp2 := Lib.hid hp2
        go_wp2_with fail
        go_quiet (fail)
        go_wp2_with fail
        refine (C'.out _).mono ?_
        rintro e w4 ⟨⟨s', rfl, O4, hk4⟩, G4⟩
        have B4 := Lib.hid ((Buf.below_drewN HB.out _).grown G4 HB.out.size (fun k hk => (HO.out.lt k hk).1))
        clear HB HO
        go_wp2_with fail
        go_roundw
        case rel => exact ⟨i, k + 1, _, by omega, by omega, by go_num, by go_num, Lib.hid O4, U, B4⟩
        case measure => simp [intOf]; omega
      · obtain rfl : k = m := by omega
        have U := Lib.hid (HU.out.stop (by rw [hn.out]; exact Nat.le_refl _) (by rw [hm.out]; exact Nat.le_refl _))
        clear goA goB
        go_wp2_with fail
        go_ret
        refine ⟨⟨_, N, rfl, own_mono HO.out (Nat.le_trans hw1 hw2), U.out.congr fun x => by rw [HA.out.has, HBb.out.has], ?_⟩, W2.out.trans (HB.out.mono (Nat.le_trans hw1 hw2))⟩
        have := LA.out
        have := LB.out
        omega
end Spn
end Go.Proofs.Ytfmhfhggogjbkaa
