/- Valid, Clone and Normal of a list of spans at any offset. -/
import Derived.Test.YtfmhfhggogjbkaaItX
import Derived.Test.YtfmhfhggogjbkaaRfU
set_option linter.unusedVariables false
set_option linter.unusedSimpArgs false
namespace Go.Proofs.Ytfmhfhggogjbkaa
open Go.RowKit Go.Sort Dice
namespace Spn
open Sp (cells2 cells2_snoc cells2_get Spans own_kept own_below own_mono own_shape)
theorem Itw.rd {w : World} {a : Addr} {c n : Nat} {L : LP} (hn : n = L.length) (h : Itw w (.slice (some a) n c) L) : ∀ j u, (cells2 L)[j]? = some u → w.cell? (a.add j) = some u := by
  obtain ⟨ad, c', e, hc, hf⟩ := h
  cases e
  intro j u hu
  have hj := (List.getElem?_eq_some_iff.1 hu).1
  rw [cells2_length] at hj
  obtain ⟨p, hp⟩ : ∃ p, L[j / 2]? = some p := ⟨_, List.getElem?_eq_getElem (by omega)⟩
  obtain ⟨a1, a2⟩ := cells2_get L (j / 2) p hp
  obtain ⟨g, o, ea, _, b1, b2⟩ := hf (j / 2) p hp
  cases ea
  have ha : (⟨g, o, none⟩ : Addr).add j = ⟨g, o + j, none⟩ := by unfold Addr.add; split <;> simp_all
  rw [ha]
  rcases Nat.mod_two_eq_zero_or_one j with e | e
  · have e' : j / 2 * 2 = j := by omega
    rw [e'] at a1 b1
    rw [b1, ← a1, hu]
  · have e' : j / 2 * 2 + 1 = j := by omega
    rw [Nat.add_assoc, e'] at b2
    rw [e'] at a2
    rw [b2, ← a2, hu]
theorem Itw.empty {w : World} {c n : Nat} {L : LP} (h : Itw w (.slice none n c) L) : L = [] := by
  obtain ⟨ad, c', e, hc, hf⟩ := h
  cases e
  cases L with
  | nil => rfl
  | cons p l => obtain ⟨g, o, e, _⟩ := hf 0 p rfl; cases e
theorem Itw.len {w : World} {a : Option Addr} {c n : Nat} {L : LP} (h : Itw w (.slice a n c) L) : n = L.length ∧ n ≤ c := by
  obtain ⟨ad, c', e, hc, hf⟩ := h
  cases e
  exact ⟨rfl, hc⟩
set_option maxHeartbeats 2000000 in
theorem clone_anyw {w : World} {v : Value} {L : LP} (h : Itw w v L) (h9 : L.length ≤ 1000) :
    Calls Try.prog 57 #[v] w fun e w' => (∃ r, e = .returned r ∧ Spans w' w.heap.size r L) ∧ Below w.heap.size w w' := by
  obtain ⟨i0, hi, hz0, hz1, hz2⟩ := info_get infoS
  have R := Lib.hid (h.keep (new_block (w := w) (.cells #[] 49)))
  obtain ⟨ad, c, rfl, hc, _⟩ := itw_form h
  cases ad with
  | none =>
    obtain rfl := h.empty
    have q : ∀ w : World, (binOp .eql 23 (.slice none 0 c) (.slice none 0 0)).run Try.prog w = .ok (.bool true) w := fun w => Lib.run_eql_slice_nil (P := Try.prog) w 23 49 none 0 c 0 0 rfl
    clear R
    simp only [List.length_nil]
    go_enter Try.func57, Try.ntmps57
    go_wp2_with fail
    go_ret
    exact ⟨⟨_, rfl, World.ownsRow_nil _ _ _ _⟩, Below.refl _ _⟩
  | some g =>
    have q : ∀ w : World, (binOp .eql 23 (.slice (some g) L.length c) (.slice none 0 0)).run Try.prog w = .ok (.bool false) w := fun w => Lib.run_eql_slice_nil (P := Try.prog) w 23 49 (some g) L.length c 0 0 rfl
    have O : Hid ((w.alloc (.cells #[] 49)).ownsRow w.heap.size 49 2 (.slice (some ⟨w.heap.size, 0, none⟩) 0 0) 0 []) := Lib.hid (World.ownsRow_lit w #[] 0 (Nat.le_refl _) (by decide) rfl)
    have R' : Hid (∀ j u, (cells2 L)[j]? = some u → (w.alloc (.cells #[] 49)).cell? (g.add j) = some u) := Lib.hid (R.out.rd rfl)
    have hl := Lib.hid (cells2_length L)
    have h1 := Lib.hid (cells2_one L)
    have m1 : Hid (0 + L.length ≤ maxLen) := Lib.hid (by unfold maxLen; omega)
    have m2 : Hid ((0 + L.length) * 16 ≤ 140737488355328) := Lib.hid (by omega)
    have hsz : w.heap.size ≤ (w.alloc (.cells #[] 49)).heap.size := by simp
    have OK : Hid (∀ r w', w'.ownsRow w.heap.size 49 2 r (0 + L.length) ([] ++ cells2 L) → Spans w' w.heap.size r L) := Lib.hid fun r w' hh => by simpa [Spans] using hh
    clear R h
    go_enter Try.func57, Try.ntmps57
    go_wp2_with (at_builtin; (refine wpList_append_own _ rfl (.tmp 5) (.tmp 6) 23 rfl w.heap.size 49 i0 (.agg #[.int .i64 0, .int .i64 0]) 2 16 Try.underlying23 hi hz0 hz1 hz2 rfl (by decide) _ 0 [] rfl O.out g L.length c (cells2 L) rfl hl.out R'.out h1.out m1.out m2.out hsz ?_; intro v' w' ho hg _))
    go_ret
    refine ⟨⟨_, rfl, OK.out _ _ ho⟩, ?_⟩
    refine Below.grown (new_block (w := w) (.cells #[] 49)) hg hsz fun k hk => ?_
    exact (O.out.lt k hk).1
set_option maxRecDepth 100000 in
set_option maxHeartbeats 4000000 in
theorem valid_anyw {w : World} {v : Value} {L : LP} (r : Bool) (hr : r = true ↔ Canon L) (h : Itw w v L) (h9 : L.length ≤ 1000) :
    Calls Try.prog 24 #[v] w fun e w' => e = .returned (.bool r) ∧ Below w.heap.size w w' := by
  have HR := Lib.hid hr
  clear hr
  obtain ⟨ad, c, rfl, hc, hcell⟩ := itw_form h
  clear h
  have HC := Lib.hid hcell
  obtain ⟨n, hn⟩ : ∃ n, n = L.length := ⟨_, rfl⟩
  rw [← hn] at h9 hc ⊢
  have Hn := Lib.hid hn
  have W0 := Lib.hid (Below.refl w.heap.size w)
  clear hcell hn
  go_enter Try.func24, Try.ntmps24
  go_wp2_with fail
  go_loopw [7] (fun i wr => ∃ k : Nat, k ≤ n ∧ i = .int .i64 k ∧ Hid (Below w.heap.size w wr) ∧ Hid (Canon (L.take k))) (fun i _ => n - (intOf i).toNat)
  case atStart => exact ⟨0, Nat.zero_le _, rfl, W0, Lib.hid Canon.nil⟩
  case round =>
    clear W0
    obtain ⟨k, hk, rfl, HB, HT⟩ := hrel
    by_cases hlt : k < n
    · obtain ⟨⟨f, t⟩, hp⟩ : ∃ p, L[k]? = some p := ⟨L[k]'(by rw [← Hn.out]; exact hlt), List.getElem?_eq_getElem _⟩
      obtain ⟨g, o, rfl, hg, q0, q1⟩ := HC.out k _ hp
      have k0 := (HB.out.cell (p := ⟨g, _, none⟩) hg).trans q0
      have k1 := (HB.out.cell (p := ⟨g, _, none⟩) hg).trans q1
      dsimp only at k0 k1
      have HP := Lib.hid hp
      have HB2 : Hid (Below w.heap.size w (wr.alloc (.cells #[.int .i64 f, .int .i64 t] 49))) := Lib.hid (HB.out.alloc HB.out.size _)
      clear q0 q1 hp
      by_cases hft : t ≤ f
      · obtain rfl : r = false := by
          rw [← Bool.not_eq_true, HR.out]
          intro hh
          have := hh.at HP.out
          dsimp only at this
          omega
        have d1 : decide (t ≤ f) = true := decide_eq_true hft
        go_wp2_with fail
        go_quiet (fail)
        go_wp2
        go_ret
        exact ⟨rfl, Buf.below_drewN HB2.out _⟩
      · have hft' : f < t := by omega
        have d1 : decide (t ≤ f) = false := decide_eq_false hft
        clear hft
        rcases Nat.eq_zero_or_pos k with rfl | hpos
        · have HT' := Lib.hid (canon_take_succ HT.out HP.out hft' (fun j p hj => by omega))
          simp only [Nat.zero_mul, Nat.add_zero] at k0 k1
          clear HT
          go_wp2_with fail
          go_quiet (fail)
          go_wp2
          go_roundw
          case rel => exact ⟨1, by omega, rfl, Lib.hid (Buf.below_drewN HB2.out _), HT'⟩
          case measure => simp [intOf]; omega
        · obtain ⟨j, rfl⟩ : ∃ j, k = j + 1 := ⟨k - 1, by omega⟩
          obtain ⟨⟨f2, t2⟩, hp2⟩ : ∃ p, L[j]? = some p := ⟨L[j]'(by rw [← Hn.out]; omega), List.getElem?_eq_getElem _⟩
          obtain ⟨g', o', eg, _, q0, q1⟩ := HC.out j _ hp2
          cases eg
          have j1 := (HB2.out.cell (p := ⟨g, _, none⟩) hg).trans q1
          dsimp only at j1
          have HP2 := Lib.hid hp2
          have e1 : IntKind.i64.wrap (j : Int) = j := IntWalk.i64_in _ ⟨by omega, by omega⟩
          have b1 : (j : Int) < n := by omega
          have b2 : (0 : Int) ≤ j := by omega
          clear q0 q1 hp2 hpos
          by_cases hgap : f ≤ t2
          · obtain rfl : r = false := by
              rw [← Bool.not_eq_true, HR.out]
              intro hh
              have := hh.get (Nat.lt_succ_self j) HP2.out HP.out
              dsimp only at this
              omega
            have d2 : decide (f ≤ t2) = true := decide_eq_true hgap
            have d3 : decide ((0 : Int) < (j : Int) + 1) = true := decide_eq_true (by omega)
            go_wp2_with fail
            go_quiet (fail)
            go_wp2
            go_ret
            exact ⟨rfl, Buf.below_drewN HB2.out _⟩
          · have hgap' : t2 < f := by omega
            have d2 : decide (f ≤ t2) = false := decide_eq_false hgap
            have d3 : decide ((0 : Int) < (j : Int) + 1) = true := decide_eq_true (by omega)
            clear hgap
            have HT' := Lib.hid (canon_take_succ HT.out HP.out hft' (fun i p hi hp => by
              obtain rfl : i = j := by omega
              rw [HP2.out] at hp; cases hp; exact hgap'))
            clear HT
            go_wp2_with fail
            go_quiet (fail)
            go_wp2
            go_roundw
            case rel => exact ⟨j + 2, by omega, by go_num, Lib.hid (Buf.below_drewN HB2.out _), HT'⟩
            case measure => simp [intOf]; omega
    · obtain rfl : k = n := by omega
      obtain rfl : r = true := by
        rw [HR.out, ← take_all L k (by rw [Hn.out]; exact Nat.le_refl _)]
        exact HT.out
      go_wp2
      go_ret
      exact ⟨rfl, HB.out⟩
set_option maxRecDepth 100000 in
set_option maxHeartbeats 4000000 in
theorem normal_anyw {w : World} {v : Value} {L : LP} (h : Itw w v L) (h9 : L.length ≤ 500) :
    Calls Try.prog 22 #[v] w fun e w' => (∃ r N, e = .returned r ∧ Spans w' w.heap.size r N ∧ Is N (hasB L) ∧ N.length ≤ L.length) ∧ Below w.heap.size w w' := by
  have H := Lib.hid h
  by_cases hc : Canon L
  · have HV := Lib.hid (valid_anyw true (by simp [hc]) h (by omega))
    have HC := Lib.hid hc
    clear h hc
    go_enter Try.func22, Try.ntmps22
    go_wp2_with (first
      | (go_at_call 24; with_reducible refine HV.out.mono ?_; rintro e w1 ⟨rfl, b1⟩; have C1 := Lib.hid (clone_anyw (H.out.keep b1) (by omega)); replace b1 := Lib.hid b1)
      | (go_at_call 57; with_reducible refine C1.out.mono ?_; rintro e w2 ⟨⟨r, rfl, O2⟩, b2⟩))
    go_ret
    exact ⟨⟨_, L, rfl, own_mono O2 b1.out.size, Is.self HC.out, Nat.le_refl _⟩, Buf.then_ b1.out b2⟩
  · have HV := Lib.hid (valid_anyw false (by simp [hc]) h (by omega))
    have hne : Hid (L ≠ []) := Lib.hid (fun e => hc (e ▸ Canon.nil))
    clear h hc
    go_enter Try.func22, Try.ntmps22
    go_wp2_with (first
      | (go_at_call 24; with_reducible refine HV.out.mono ?_; rintro e w1 ⟨rfl, b1⟩; have C1 := Lib.hid (clone_anyw (H.out.keep b1) (by omega)); replace b1 := Lib.hid b1)
      | (go_at_call 57; with_reducible refine C1.out.mono ?_; rintro e w2 ⟨⟨r, rfl, O2⟩, b2⟩))
    rcases own_shape O2 with ⟨rfl, hn⟩ | ⟨g, c, rfl, hcc, hg⟩
    · exact absurd (List.length_eq_zero_iff.1 hn) hne.out
    · obtain ⟨n, hn⟩ : ∃ n, n = L.length := ⟨_, rfl⟩
      have hgB := (O2.lt g rfl).1
      unfold Spans at O2
      rw [← hn] at O2 h9 hcc ⊢
      have HO := Lib.hid O2
      have B2 := Lib.hid (Buf.then_ b1.out b2)
      have hw1 := b1.out.size
      have hw2 := b2.size
      replace hn := Lib.hid hn
      clear O2 b1 b2 HV C1 H
      refine (sort_any hn.out (by omega) HO.out hcc hg).mono ?_
      rintro e w3 ⟨rfl, L', hl, hperm, hs, I3, G3⟩
      have HP := Lib.hid hperm
      have HS := Lib.hid hs
      have HL := Lib.hid hl
      have HI := Lib.hid I3
      have W3 : Hid (Below w.heap.size w w3) := Lib.hid (B2.out.grown G3 (Nat.le_trans hw1 hw2) (fun k hk => by cases hk; omega))
      have hg3 : g < w3.heap.size := Nat.lt_of_lt_of_le hg G3.size
      have hcell : Hid (∀ (k : Nat) (p : Int × Int), L'[k]? = some p → w3.cell? ⟨g, k * 2, none⟩ = some (.int .i64 p.1) ∧ w3.cell? ⟨g, k * 2 + 1, none⟩ = some (.int .i64 p.2)) := by
        rcases I3 with ⟨h, _⟩ | ⟨g', c', e, _, _, h⟩
        · cases h
        · cases e; exact Lib.hid h
      have hw3 : Hid (w.heap.size ≤ w3.heap.size) := Lib.hid W3.out.size
      have A0 := Lib.hid (Below.refl w3.heap.size w3)
      have Z0 : Hid (Spans w3 w3.heap.size (.slice none 0 0) []) := Lib.hid (World.ownsRow_nil _ _ _ _)
      clear hperm hs I3 G3 HO B2 hl hcc
      go_wp2_with fail
      go_loopw [17, 4] (fun i s wr => ∃ (k : Nat) (N : LP), k ≤ n ∧ i = .int .i64 k ∧ Hid (Spans wr w3.heap.size s N) ∧ Hid (Is N (hasB (L'.take k))) ∧ Hid (N.length ≤ k) ∧ Hid (∀ f, Le (L'.take k) f → Le N f) ∧ Hid (Below w3.heap.size w3 wr)) (fun i _ _ => n - (intOf i).toNat)
      case atStart => exact ⟨0, [], Nat.zero_le _, rfl, Z0, Lib.hid (Is.nil (by simp [hasB])), Lib.hid (Nat.le_refl _), Lib.hid (fun f _ => Le.nil f), A0⟩
      case round =>
        clear A0 Z0
        obtain ⟨k, N, hk, rfl, HO, HJ, HN, HF, HB⟩ := hrel
        by_cases hlt : k < n
        · obtain ⟨⟨f, t⟩, hp⟩ : ∃ p, L'[k]? = some p := ⟨L'[k]'(by rw [HL.out]; exact hlt), List.getElem?_eq_getElem _⟩
          obtain ⟨q0, q1⟩ := hcell.out k _ hp
          have k0 := (HB.out.cell (p := ⟨g, _, none⟩) hg3).trans q0
          have k1 := (HB.out.cell (p := ⟨g, _, none⟩) hg3).trans q1
          dsimp only at k0 k1
          have hle := HF.out f (le_sorted HS.out hp)
          have B1 := Lib.hid (HB.out.alloc HB.out.size (.cells #[.int .i64 f, .int .i64 t] 49))
          have O1 := Lib.hid (own_below HO.out (new_block (.cells #[.int .i64 f, .int .i64 t] 49)))
          have hn1 := HN.out
          have C := Lib.hid (add_any f t O1.out B1.out.size (by omega))
          have A2 := Lib.hid (HJ.out.add (s := (f, t)) hle)
          have A3 := addL_spec HJ.out.canon (s := (f, t)) hle
          have A4 : Hid (Is (addL N (f, t)) (hasB (L'.take (k + 1)))) := Lib.hid (A2.out.congr fun x => (take_succ_has L' k _ hp x).symm)
          have A5 : Hid ((addL N (f, t)).length ≤ k + 1) := Lib.hid (by have := A3.2.2.2; omega)
          have A6 : Hid (∀ f', Le (L'.take (k + 1)) f' → Le (addL N (f, t)) f') := Lib.hid fun f' hf => le_take_succ hp A3.2.2.1 f' hf
          clear q0 q1 hp A3 hle A2 HJ HN HF
          go_wp2_with fail
          refine C.out.mono ?_
          rintro e w4 ⟨⟨s', rfl, O4, hk4⟩, G4⟩
          have B4 := Lib.hid (B1.out.grown G4 B1.out.size (fun k hk => (O1.out.lt k hk).1))
          go_wp2_with fail
          go_roundw
          case rel => exact ⟨k + 1, addL N (f, t), by omega, by go_num, Lib.hid O4, A4, A5, A6, B4⟩
          case measure => simp [intOf]; omega
        · obtain rfl : k = n := by omega
          go_wp2_with fail
          go_ret
          refine ⟨⟨_, N, rfl, own_mono HO.out hw3.out, ?_, by rw [← hn.out]; exact HN.out⟩, W3.out.trans (HB.out.mono hw3.out)⟩
          rw [take_all L' k (by rw [HL.out]; exact Nat.le_refl _)] at HJ
          exact HJ.out.congr fun x => hasB_perm HP.out.symm x
theorem run_spansw {w : World} {B : Nat} {v u : Value} {L K : LP} (h : Spans w B v L) (hu : Itw w u K) (hB : B ≤ w.heap.size) (h9 : L.length + K.length ≤ 1000000) (ty : TypeId) :
    ∃ v' w', (Builtin.append_ #[23, 23] ty #[v, u]).run Try.prog w = .ok v' w' ∧ Spans w' B v' (L ++ K) ∧ w.grownBy w' v.ownBlock := by
  obtain ⟨j0, hj0, hz0', hz1', hz2'⟩ := info_get infoS
  unfold Spans
  rw [cells2_append, List.length_append]
  obtain ⟨ad, c, rfl, hc, _⟩ := itw_form hu
  rcases ad with _ | g
  · obtain rfl := hu.empty
    have hs : Src Try.prog j0.size 23 (.slice none 0 c) 0 [] w := Src.ofNil w Try.underlying23 c
    have e : cells2 L ++ cells2 [] = cells2 L := by simp [cells2]
    rw [e, List.length_nil, Nat.add_zero]
    rcases h.2 with ⟨rfl, h0⟩ | ⟨g, c, cur, rfl, hb, hg, h1, h2, h3, h4⟩
    · exact ⟨_, w, run_append_nothing w _ _ ty 49 j0 Try.underlying23 hj0 none 0 0 (Nat.le_refl _) _ hs, h, ⟨rfl, rfl, rfl, Nat.le_refl _, fun _ _ _ => rfl⟩⟩
    · exact ⟨_, w, run_append_nothing w _ _ ty 49 j0 Try.underlying23 hj0 _ _ c h1 _ hs, h, ⟨rfl, rfl, rfl, Nat.le_refl _, fun _ _ _ => rfl⟩⟩
  · obtain ⟨v', w', hr, r2, r3, _⟩ := run_append_own (P := Try.prog) w B 23 ty 49 j0 _ 2 16 Try.underlying23 hj0 hz0' hz1' hz2' rfl (by decide) v L.length (cells2 L) h g K.length c (cells2 K) (cells2_length K) (hu.rd rfl) (cells2_one K) (by unfold maxLen; omega) (by omega) hB
    exact ⟨v', w', hr, r2, r3⟩
theorem wp_spansw {o : Oper} {a : Act} {K' : Act → World → Prop} {Q : Exit → Act → World → Prop} (s x : Operand)
    (ho : o.op = .call { callee := .builtin .append, args := #[s, x], argTypes := #[23, 23] })
    {w : World} {B : Nat} {v u : Value} {L K : LP} (hv : a.eval s = v) (hx : a.eval x = u) (h : Spans w B v L) (hu : Itw w u K) (hB : B ≤ w.heap.size) (h9 : L.length + K.length ≤ 1000000)
    (hK : ∀ v' w', Spans w' B v' (L ++ K) → w.grownBy w' v.ownBlock → K' (a.put o.dst v') w') : o.wp Try.prog a w K' Q := by
  obtain ⟨v', w', hr, r1, r2⟩ := run_spansw h hu hB h9 o.type
  unfold Oper.wp execOp
  simp only [ho, resolve, invoke, builtin, Sem.run_bind, Sem.run_pure, Result.andThen_ok, List.map_toArray, List.map_cons, List.map_nil, hv, hx, hr]
  exact hK v' w' r1 r2
theorem wpl_spansw {ops : Array Oper} {rest : List Oper} {o : Oper} {a : Act} {Q : Exit → Act → World → Prop} (s x : Operand) {w : World} {B : Nat} {v u : Value} {L K : LP}
    (h : Spans w B v L) (hu : Itw w u K) (hB : B ≤ w.heap.size) (h9 : L.length + K.length ≤ 1000000)
    (hgd : o.guard = none) (ho : o.op = .call { callee := .builtin .append, args := #[s, x], argTypes := #[23, 23] }) (hv : a.eval s = v) (hx : a.eval x = u)
    (hK : ∀ v' w', Spans w' B v' (L ++ K) → w.grownBy w' v.ownBlock → wpList Try.prog ops Q rest (a.put o.dst v') w') : wpList Try.prog ops Q (o :: rest) a w :=
  wpList_plain hgd fun _ hKK => wp_spansw s x ho hv hx h hu hB h9 fun v' w' h1 h2 => hKK _ _ (hK v' w' h1 h2)
end Spn
end Go.Proofs.Ytfmhfhggogjbkaa
