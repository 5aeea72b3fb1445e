/- Lists of spans in memory; slices.Clone, span.Valid and span.add. -/
import Derived.Test.YtfmhfhggogjbkaaSndA
import Derived.Test.YtfmhfhggogjbkaaSpnM
import Derived.Lib.SliceRun
import Derived.Lib.MinMax
import Derived.Deep.RegionHeld3
set_option linter.unusedVariables false
set_option linter.unusedSimpArgs false
namespace Go.Proofs.Ytfmhfhggogjbkaa
open Go.RowKit Dice
namespace Spn
open Sp (cells2 cells2_snoc cells2_get Spans own_kept own_below own_mono own_shape)
theorem infoS : (Try.prog.info? 49).map (fun i => (i.zero, i.size, i.bytes)) = some (some (.agg #[.int .i64 0, .int .i64 0]), 2, 16) := by kernel_rfl
theorem info_get {o : Option TypeInfo} {z s b} (h : o.map (fun i => (i.zero, i.size, i.bytes)) = some (z, s, b)) : ∃ i, o = some i ∧ i.zero = z ∧ i.size = s ∧ i.bytes = b := by
  cases o with
  | none => simp at h
  | some i => simp at h; exact ⟨i, rfl, h.1, h.2.1, h.2.2⟩
theorem hop {w w' : World} {b : Nat} {o : Obj} (h : Below w.heap.size w w') (e : w.heap[b]? = some o) : w'.heap[b]? = some o := (h.block b (Array.getElem?_eq_some_iff.1 e).1).trans e
theorem c2 {w : World} {g : Nat} {x y : Value} {t : TypeId} (h : w.heap[g]? = some (.cells #[x, y] t (0, 0))) : w.cell? ⟨g, 0, none⟩ = some x ∧ w.cell? ⟨g, 1, none⟩ = some y :=
  ⟨(cell_of_row w g 0 _ _ _ h).trans rfl, (cell_of_row w g 1 _ _ _ h).trans rfl⟩
theorem cells2_length (l : LP) : (cells2 l).length = l.length * 2 := by
  induction l with
  | nil => rfl
  | cons p l ih => simp only [cells2, List.flatMap_cons, List.length_append, List.length_cons, List.length_nil] at ih ⊢; omega
theorem cells2_one (l : LP) : ∀ u ∈ cells2 l, u.oneCell' = true := by
  intro u hu
  simp only [cells2, List.mem_flatMap, List.mem_cons, List.not_mem_nil, or_false] at hu
  obtain ⟨p, _, rfl | rfl⟩ := hu <;> rfl
/-- A list of spans that can be read. -/
def Its (w : World) (v : Value) (L : LP) : Prop :=
  (v = .slice none 0 0 ∧ L = []) ∨ ∃ g c, v = .slice (some ⟨g, 0, none⟩) L.length c ∧ L.length ≤ c ∧ g < w.heap.size ∧
    ∀ (k : Nat) (p : Int × Int), L[k]? = some p → w.cell? ⟨g, k * 2, none⟩ = some (.int .i64 p.1) ∧ w.cell? ⟨g, k * 2 + 1, none⟩ = some (.int .i64 p.2)
theorem Its.below {B : Nat} {w w' : World} {v : Value} {L : LP} (h : Its w v L) (hv : ∀ g, v.ownBlock = some g → g < B) (hb : Below B w w') : Its w' v L := by
  refine h.imp id ?_
  rintro ⟨g, c, rfl, h2, h3, h4⟩
  have hg := hv g rfl
  exact ⟨g, c, rfl, h2, Nat.lt_of_lt_of_le h3 hb.size, fun k p hp => ⟨(hb.cell (p := ⟨g, _, none⟩) hg).trans (h4 k p hp).1, (hb.cell (p := ⟨g, _, none⟩) hg).trans (h4 k p hp).2⟩⟩
theorem Its.lt {w : World} {v : Value} {L : LP} (h : Its w v L) (g : Nat) (hg : v.ownBlock = some g) : g < w.heap.size := by
  rcases h with ⟨rfl, _⟩ | ⟨b, c, rfl, _, h3, _⟩
  · cases hg
  · cases hg; exact h3
theorem Its.keep {w w' : World} {v : Value} {L : LP} (h : Its w v L) (hb : Below w.heap.size w w') : Its w' v L := h.below h.lt hb
theorem its_of_own {B : Nat} {w : World} {v : Value} {L : LP} (h : Spans w B v L) : Its w v L := by
  have h0 := h
  rcases h.2 with ⟨h1, h2⟩ | ⟨g, cap, cur, rfl, h2, h3, h4, h5, h6, h7⟩
  · exact .inl ⟨h1, List.eq_nil_of_length_eq_zero h2⟩
  · refine .inr ⟨g, cap, rfl, h4, (Array.getElem?_eq_some_iff.1 h3).1, fun k p hp => ?_⟩
    have hk : k < L.length := (List.getElem?_eq_some_iff.1 hp).1
    obtain ⟨a, b⟩ := cells2_get L k p hp
    have ho : w.ownsRow B 49 2 (.slice (some ⟨g, 0, none⟩) L.length cap) L.length (cells2 L) := h0
    exact ⟨(ho.cellAt _ (by omega)).trans a, (ho.cellAt _ (by omega)).trans b⟩
theorem Its.rd {w : World} {g c n : Nat} {L : LP} (hn : n = L.length) (h : Its w (.slice (some ⟨g, 0, none⟩) n c) L) : ∀ j u, (cells2 L)[j]? = some u → w.cell? ((⟨g, 0, none⟩ : Addr).add j) = some u := by
  rcases h with ⟨h, _⟩ | ⟨g', c', e, h1, h2, h3⟩
  · cases h
  · cases e
    intro j u hu
    have hj : j < L.length * 2 := by rw [← cells2_length]; exact (List.getElem?_eq_some_iff.1 hu).1
    rw [Addr.add_lit, Nat.zero_add]
    obtain ⟨k, r, rfl, hr⟩ : ∃ k r, j = k * 2 + r ∧ r < 2 := ⟨j / 2, j % 2, by omega, by omega⟩
    have hk : k < L.length := by omega
    obtain ⟨a, b⟩ := cells2_get L k _ (List.getElem?_eq_getElem hk)
    obtain ⟨a', b'⟩ := h3 k _ (List.getElem?_eq_getElem hk)
    obtain rfl | rfl : r = 0 ∨ r = 1 := by omega
    · rw [Nat.add_zero] at hu ⊢; rw [a', ← hu, a]
    · rw [b', ← hu, b]
set_option maxHeartbeats 2000000 in
theorem clone_any {w : World} {v : Value} {L : LP} (h : Its w v L) (h9 : L.length ≤ 1000) :
    Calls Try.prog 57 #[v] w fun e w' => (∃ r, e = .returned r ∧ Spans w' w.heap.size r L) ∧ Below w.heap.size w w' := by
  obtain ⟨i0, hi, hz0, hz1, hz2⟩ := info_get infoS
  have R := Lib.hid (h.keep (new_block (w := w) (.cells #[] 49)))
  rcases h with ⟨rfl, rfl⟩ | ⟨g, c, rfl, hc, hg, h3⟩
  · have q : ∀ w : World, (binOp .eql 23 (.slice none 0 0) (.slice none 0 0)).run Try.prog w = .ok (.bool true) w := fun w => Lib.run_eql_slice_nil (P := Try.prog) w 23 49 none 0 0 0 0 rfl
    clear R
    go_enter Try.func57, Try.ntmps57
    go_wp2_with fail
    go_ret
    exact ⟨⟨_, rfl, World.ownsRow_nil _ _ _ _⟩, Below.refl _ _⟩
  · have q : ∀ w : World, (binOp .eql 23 (.slice (some ⟨g, 0, none⟩) L.length c) (.slice none 0 0)).run Try.prog w = .ok (.bool false) w := fun w => Lib.run_eql_slice_nil (P := Try.prog) w 23 49 (some ⟨g, 0, none⟩) L.length c 0 0 rfl
    have O : Hid ((w.alloc (.cells #[] 49)).ownsRow w.heap.size 49 2 (.slice (some ⟨w.heap.size, 0, none⟩) 0 0) 0 []) := Lib.hid (World.ownsRow_lit w #[] 0 (Nat.le_refl _) (by decide) rfl)
    have R' : Hid (∀ j u, (cells2 L)[j]? = some u → (w.alloc (.cells #[] 49)).cell? ((⟨g, 0, none⟩ : Addr).add j) = some u) := Lib.hid (R.out.rd rfl)
    have hl := Lib.hid (cells2_length L)
    have h1 := Lib.hid (cells2_one L)
    have m1 : Hid (0 + L.length ≤ maxLen) := Lib.hid (by unfold maxLen; omega)
    have m2 : Hid ((0 + L.length) * 16 ≤ 140737488355328) := Lib.hid (by omega)
    have hsz : w.heap.size ≤ (w.alloc (.cells #[] 49)).heap.size := by simp
    have OK : Hid (∀ r w', w'.ownsRow w.heap.size 49 2 r (0 + L.length) ([] ++ cells2 L) → Spans w' w.heap.size r L) := Lib.hid fun r w' hh => by simpa [Spans] using hh
    clear R h3
    go_enter Try.func57, Try.ntmps57
    go_wp2_with (at_builtin; (refine wpList_append_own _ rfl (.tmp 5) (.tmp 6) 23 rfl w.heap.size 49 i0 (.agg #[.int .i64 0, .int .i64 0]) 2 16 Try.underlying23 hi hz0 hz1 hz2 rfl (by decide) _ 0 [] rfl O.out ⟨g, 0, none⟩ L.length c (cells2 L) rfl hl.out R'.out h1.out m1.out m2.out hsz ?_; intro v' w' ho hg _))
    go_ret
    refine ⟨⟨_, rfl, OK.out _ _ ho⟩, ?_⟩
    refine Below.grown (new_block (w := w) (.cells #[] 49)) hg hsz fun k hk => ?_
    exact (O.out.lt k hk).1
theorem canon_take_succ {L : LP} {k : Nat} {s : Int × Int} (h : Canon (L.take k)) (hs : L[k]? = some s) (h1 : s.1 < s.2) (hp : ∀ j p, k = j + 1 → L[j]? = some p → p.2 < s.1) : Canon (L.take (k + 1)) := by
  rw [List.take_add_one, hs]
  refine canon_snoc.2 ⟨h, h1, fun q hq => ?_⟩
  obtain ⟨i, hi, e⟩ := List.mem_iff_getElem.1 hq
  have hik : i < k := by simp at hi; omega
  have hLi : L[i]? = some q := by rw [← e, List.getElem_take]; exact List.getElem?_eq_getElem _
  obtain ⟨j, rfl⟩ : ∃ j, k = j + 1 := ⟨k - 1, by omega⟩
  have hLj : L[j]? = some (L[j]'(by have := (List.getElem?_eq_some_iff.1 hs).1; omega)) := List.getElem?_eq_getElem _
  have hpj := hp j _ rfl hLj
  rcases Nat.lt_or_ge i j with hij | hij
  · have t1 : (L.take (j + 1))[i]? = some q := by rw [List.getElem?_take, if_pos (by omega)]; exact hLi
    have t2 : (L.take (j + 1))[j]? = some (L[j]'(by have := (List.getElem?_eq_some_iff.1 hs).1; omega)) := by rw [List.getElem?_take, if_pos (by omega)]; exact hLj
    have a1 := h.get hij t1 t2
    have a2 := h.at t2
    omega
  · obtain rfl : i = j := by omega
    rw [hLi] at hLj
    rw [Option.some.injEq] at hLj
    rw [← hLj] at hpj
    exact hpj
set_option maxRecDepth 100000 in
set_option maxHeartbeats 4000000 in
theorem valid_any {w : World} {v : Value} {L : LP} (r : Bool) (hr : r = true ↔ Canon L) (h : Its w v L) (h9 : L.length ≤ 1000) :
    Calls Try.prog 24 #[v] w fun e w' => e = .returned (.bool r) ∧ Below w.heap.size w w' := by
  have HR := Lib.hid hr
  clear hr
  rcases h with ⟨rfl, rfl⟩ | ⟨g, c, rfl, hc, hg, hcell⟩
  · obtain rfl : r = true := HR.out.2 Canon.nil
    go_enter Try.func24, Try.ntmps24
    go_wp2_with fail
    go_loop [7] (fun i => i = .int .i64 0) (fun _ => 0)
    case atStart => rfl
    case round =>
      subst hrel
      go_wp2
      go_ret
      exact ⟨rfl, Below.refl _ _⟩
  · have HC := Lib.hid hcell
    obtain ⟨n, hn⟩ : ∃ n, n = L.length := ⟨_, rfl⟩
    rw [← hn] at h9 hc ⊢
    have Hn := Lib.hid hn
    have W0 := Lib.hid (Below.refl w.heap.size w)
    clear hcell hn
    go_enter Try.func24, Try.ntmps24
    go_wp2_with fail
    go_loopw [7] (fun i wr => ∃ k : Nat, k ≤ n ∧ i = .int .i64 k ∧ Hid (Below w.heap.size w wr) ∧ Hid (Canon (L.take k))) (fun i _ => n - (intOf i).toNat)
    case atStart => exact ⟨0, Nat.zero_le _, rfl, W0, Lib.hid Canon.nil⟩
    case round =>
      clear W0
      obtain ⟨k, hk, rfl, HB, HT⟩ := hrel
      by_cases hlt : k < n
      · obtain ⟨⟨f, t⟩, hp⟩ : ∃ p, L[k]? = some p := ⟨L[k]'(by rw [← Hn.out]; exact hlt), List.getElem?_eq_getElem _⟩
        obtain ⟨q0, q1⟩ := HC.out k _ hp
        have k0 := (HB.out.cell (p := ⟨g, _, none⟩) hg).trans q0
        have k1 := (HB.out.cell (p := ⟨g, _, none⟩) hg).trans q1
        dsimp only at k0 k1
        have HP := Lib.hid hp
        have HB2 : Hid (Below w.heap.size w (wr.alloc (.cells #[.int .i64 f, .int .i64 t] 49))) := Lib.hid (HB.out.alloc HB.out.size _)
        clear q0 q1 hp
        by_cases hft : t ≤ f
        · obtain rfl : r = false := by
            rw [← Bool.not_eq_true, HR.out]
            intro hh
            have := hh.at HP.out
            dsimp only at this
            omega
          have d1 : decide (t ≤ f) = true := decide_eq_true hft
          go_wp2_with fail
          go_quiet (fail)
          go_wp2
          go_ret
          exact ⟨rfl, Buf.below_drewN HB2.out _⟩
        · have hft' : f < t := by omega
          have d1 : decide (t ≤ f) = false := decide_eq_false hft
          clear hft
          rcases Nat.eq_zero_or_pos k with rfl | hpos
          · have HT' := Lib.hid (canon_take_succ HT.out HP.out hft' (fun j p hj => by omega))
            clear HT
            go_wp2_with fail
            go_quiet (fail)
            go_wp2
            go_roundw
            case rel => exact ⟨1, by omega, rfl, Lib.hid (Buf.below_drewN HB2.out _), HT'⟩
            case measure => simp [intOf]; omega
          · obtain ⟨j, rfl⟩ : ∃ j, k = j + 1 := ⟨k - 1, by omega⟩
            obtain ⟨⟨f2, t2⟩, hp2⟩ : ∃ p, L[j]? = some p := ⟨L[j]'(by rw [← Hn.out]; omega), List.getElem?_eq_getElem _⟩
            obtain ⟨q0, q1⟩ := HC.out j _ hp2
            have j1 := (HB2.out.cell (p := ⟨g, _, none⟩) hg).trans q1
            dsimp only at j1
            have HP2 := Lib.hid hp2
            have e1 : IntKind.i64.wrap (j : Int) = j := IntWalk.i64_in _ ⟨by omega, by omega⟩
            have b1 : (j : Int) < n := by omega
            have b2 : (0 : Int) ≤ j := by omega
            clear q0 q1 hp2 hpos
            by_cases hgap : f ≤ t2
            · obtain rfl : r = false := by
                rw [← Bool.not_eq_true, HR.out]
                intro hh
                have := hh.get (Nat.lt_succ_self j) HP2.out HP.out
                dsimp only at this
                omega
              have d2 : decide (f ≤ t2) = true := decide_eq_true hgap
              have d3 : decide ((0 : Int) < (j : Int) + 1) = true := decide_eq_true (by omega)
              go_wp2_with fail
              go_quiet (fail)
              go_wp2
              go_ret
              exact ⟨rfl, Buf.below_drewN HB2.out _⟩
            · have hgap' : t2 < f := by omega
              have d2 : decide (f ≤ t2) = false := decide_eq_false hgap
              have d3 : decide ((0 : Int) < (j : Int) + 1) = true := decide_eq_true (by omega)
              clear hgap
              have HT' := Lib.hid (canon_take_succ HT.out HP.out hft' (fun i p hi hp => by
                obtain rfl : i = j := by omega
                rw [HP2.out] at hp; cases hp; exact hgap'))
              clear HT
              go_wp2_with fail
              go_quiet (fail)
              go_wp2
              go_roundw
              case rel => exact ⟨j + 2, by omega, by go_num, Lib.hid (Buf.below_drewN HB2.out _), HT'⟩
              case measure => simp [intOf]; omega
      · obtain rfl : k = n := by omega
        obtain rfl : r = true := by
          rw [HR.out, ← take_all L k (by rw [Hn.out]; exact Nat.le_refl _)]
          exact HT.out
        go_wp2
        go_ret
        exact ⟨rfl, HB.out⟩
end Spn
end Go.Proofs.Ytfmhfhggogjbkaa
