/- slices.SortFunc at spans, by where they begin; span.Normal. -/
import Derived.Test.YtfmhfhggogjbkaaSpnB
import Derived.Test.YtfmhfhggogjbkaaSpnS
set_option linter.unusedVariables false
set_option linter.unusedSimpArgs false
namespace Go.Proofs.Ytfmhfhggogjbkaa
open Go.RowKit Dice
namespace Spn
open Sp (cells2 cells2_snoc cells2_get Spans own_kept own_below own_mono own_shape)
def encS (x : Int × Int) : List Value := [.int .i64 x.1, .int .i64 x.2]
theorem ltS (x y : Int × Int) : ltOf (fun x y : Int × Int => Lib.compareInt x.1 y.1) x y = decide (x.1 < y.1) := by
  unfold ltOf Lib.compareInt
  by_cases h1 : x.1 < y.1
  · simp [h1]
  · by_cases h2 : y.1 < x.1 <;> simp [h1, h2]
theorem swoS : Go.Sort.SWO (ltOf fun x y : Int × Int => Lib.compareInt x.1 y.1) where
  irrefl x := by rw [ltS]; simp
  trans x y z h1 h2 := by rw [ltS] at *; simp at *; omega
  ntrans x y z h1 h2 := by rw [ltS] at *; simp at *; omega
theorem holds_of_own {w : World} {B g c n : Nat} {L : LP} (hn : n = L.length) (O : w.ownsRow B 49 2 (.slice (some ⟨g, 0, none⟩) n c) n (cells2 L)) : Go.Sort.HoldsK encS 2 w g 0 L.toArray := by
  intro j hj
  have hj' : j < L.length * 2 := by simpa using hj
  rw [Nat.zero_add]
  refine ⟨?_, O.frozenAt j⟩
  rw [O.cellAt j (by omega), Go.Sort.get_flatK _ _ _ _ (by simpa using hj')]
  have hk : j / 2 < L.length := by omega
  obtain ⟨a, b⟩ := cells2_get L (j / 2) _ (List.getElem?_eq_getElem hk)
  have e : (L.toArray)[j / 2]! = L[j / 2] := by simp [hk]
  rw [e]
  obtain h | h : j % 2 = 0 ∨ j % 2 = 1 := by omega
  · have e2 : (cells2 L)[j]? = some (.int .i64 L[j / 2].1) := by rw [← a]; congr 1; omega
    rw [e2, h]
    simp [encS]
  · have e2 : (cells2 L)[j]? = some (.int .i64 L[j / 2].2) := by rw [← b]; congr 1; omega
    rw [e2, h]
    simp [encS]
theorem grown_sort {w : World} {enc : Int × Int → List Value} {k g off m : Nat} {d : Array (Int × Int)} {os : Array Obj} : w.grownBy (sortWorldK enc k w g off m d os) (some g) := by
  refine ⟨rfl, rfl, rfl, size_sortWorldK_c enc k w g off m d os, fun j hj hne => ?_⟩
  show ((w.heap.modify g _) ++ os)[j]? = _
  rw [Array.getElem?_append_left (by simpa using hj), Array.getElem?_modify, if_neg (fun e => hne (by rw [e]))]
theorem cmpc_any (x y : Int) (w : World) : Calls Try.prog 60 #[.int .i64 x, .int .i64 y] w fun e w' => e = .returned (.int .i64 (Lib.compareInt x y)) ∧ w' = w := by
  have N : Hid (∀ (x : Int) (w : World), Calls Try.prog 73 #[.int .i64 x] w fun e w' => e = .returned (.bool false) ∧ w' = w) := Lib.hid fun x w => by
    go_enter Try.func73, Try.ntmps73
    go_wp2
    go_ret
    exact ⟨rfl, rfl⟩
  rcases Int.lt_trichotomy x y with h | rfl | h
  · have e : Hid (Lib.compareInt x y = -1) := Lib.hid (by unfold Lib.compareInt; rw [if_pos h])
    rw [e.out]
    go_enter Try.func60, Try.ntmps60
    go_wp2_with (go_at_call 73; with_reducible refine (N.out _ _).mono ?_; rintro e w1 ⟨rfl, rfl⟩)
    go_ret
    exact ⟨rfl, rfl⟩
  · have e : Hid (Lib.compareInt x x = 0) := Lib.hid (by unfold Lib.compareInt; rw [if_neg (by omega), if_neg (by omega)])
    rw [e.out]
    go_enter Try.func60, Try.ntmps60
    go_wp2_with (go_at_call 73; with_reducible refine (N.out _ _).mono ?_; rintro e w1 ⟨rfl, rfl⟩)
    go_ret
    exact ⟨rfl, rfl⟩
  · have e : Hid (Lib.compareInt x y = 1) := Lib.hid (by unfold Lib.compareInt; rw [if_neg (by omega), if_pos (by omega)])
    have h' : ¬ x < y := by omega
    rw [e.out]
    go_enter Try.func60, Try.ntmps60
    go_wp2_with (go_at_call 73; with_reducible refine (N.out _ _).mono ?_; rintro e w1 ⟨rfl, rfl⟩)
    go_ret
    exact ⟨rfl, rfl⟩
theorem less_any (x y : Int × Int) (W : World) : Calls Try.prog 59 #[.agg #[.int .i64 x.1, .int .i64 x.2], .agg #[.int .i64 y.1, .int .i64 y.2]] W fun e w' => e = .returned (.int .i64 (Lib.compareInt x.1 y.1)) ∧ ∃ q os', w' = Go.Sort.grow (W.drewN q) os' := by
  have hcon := Lib.hid fun W' => cmpc_any x.1 y.1 W'
  generalize Lib.compareInt x.1 y.1 = r at hcon ⊢
  go_enter Try.func59, Try.ntmps59
  go_wp2_with (go_at_call 60; with_reducible refine (hcon.out _).mono ?_; rintro e w' ⟨rfl, rfl⟩)
  go_ret
  exact ⟨rfl, 0, _, by rw [Go.Sort.alloc_eq_grow, Go.Sort.alloc_eq_grow, Go.Sort.grow_grow]; rfl⟩
theorem sort_any {w : World} {B g c n : Nat} {L : LP} (hn : n = L.length) (h9 : n ≤ 1000) (O : w.ownsRow B 49 2 (.slice (some ⟨g, 0, none⟩) n c) n (cells2 L)) (hc : n ≤ c) (hg : g < w.heap.size) :
    Calls Try.prog 58 #[.slice (some ⟨g, 0, none⟩) n c, .func (.func 59) #[] #[]] w fun e w' => e = .returned (.tuple #[]) ∧ ∃ L', L'.length = n ∧ L.Perm L' ∧ (∀ (i j : Nat) (p q : Int × Int), i < j → L'[i]? = some p → L'[j]? = some q → p.1 ≤ q.1) ∧ Its w' (.slice (some ⟨g, 0, none⟩) n c) L' ∧ w.grownBy w' (some g) := by
  have eg : ∀ args w, (callFunc 59 args).run Try.prog w = .ok (.enter 59 args) w := enters_of Try.func59 (by kernel_rfl) rfl
  have hH := holds_of_own hn O
  have hcon := AnyQ.slices_SortFunc SpnS.lays 2 Try.isAgg49 Try.sizeOf49 encS (fun _ => rfl) (fun x v hv => by simp [encS] at hv; rcases hv with rfl | rfl <;> rfl) (fun x y => Lib.compareInt x.1 y.1) swoS 59 #[] g 0 c L.toArray w eg (fun _ _ _ _ x y => less_any x y _) hH hg (by simp; omega)
  change Calls Try.prog 58 _ _ _ at hcon
  have es : L.toArray.size = n := by simp [hn]
  rw [es] at hcon
  refine hcon.mono ?_
  rintro e w' ⟨rfl, d', m, os, ⟨p1, _, p3⟩, hs, rfl⟩
  have hsz : d'.size = n := by rw [p1, es]
  refine ⟨rfl, d'.toList, by simpa using hsz, ?_, ?_, ?_, grown_sort⟩
  · have a : (d'.extract 0 n).toList = d'.toList := by rw [← hsz]; simp
    have b : (L.toArray.extract 0 n).toList = L := by rw [hn]; simp
    rw [a, b] at p3
    exact p3.symm
  · intro i j p q hij hp hq
    have hi : i < d'.size := by simpa using (List.getElem?_eq_some_iff.1 hp).1
    have hj : j < d'.size := by simpa using (List.getElem?_eq_some_iff.1 hq).1
    have := hs i j (Nat.zero_le _) hij (by omega)
    rw [ltS] at this
    have e1 : d'[i]! = p := by rw [getElem!_pos d' i hi]; exact (Array.getElem?_eq_some_iff.1 (by simpa using hp)).2
    have e2 : d'[j]! = q := by rw [getElem!_pos d' j hj]; exact (Array.getElem?_eq_some_iff.1 (by simpa using hq)).2
    rw [e1, e2] at this
    simpa using this
  · refine .inr ⟨g, c, by simp [hsz], by simp; omega, Nat.lt_of_lt_of_le hg (grown_sort).size, fun k p hp => ?_⟩
    have hk : k < d'.size := by simpa using (List.getElem?_eq_some_iff.1 hp).1
    have hH' := holdsK_sortWorldK_c encS 2 w g 0 L.toArray d' m os hH hg (by rw [hsz, es])
    have e1 : d'[k]! = p := by rw [getElem!_pos d' k hk]; exact (Array.getElem?_eq_some_iff.1 (by simpa using hp)).2
    have a := (hH'.cell (i := k) (c := 0) hk (by omega)).1
    have b := (hH'.cell (i := k) (c := 1) hk (by omega)).1
    rw [e1, Nat.zero_add] at a b
    exact ⟨a, b⟩
/-- What ends a walk over a sorted list. -/
theorem le_sorted {L : LP} (hs : ∀ (i j : Nat) (p q : Int × Int), i < j → L[i]? = some p → L[j]? = some q → p.1 ≤ q.1) {k : Nat} {s : Int × Int} (hk : L[k]? = some s) : Le (L.take k) s.1 := by
  intro p hp
  obtain ⟨i, hi, e⟩ := List.mem_iff_getElem.1 hp
  have hik : i < k := by simp at hi; omega
  exact hs i k p s hik (by rw [← e, List.getElem_take]; exact List.getElem?_eq_getElem _) hk
theorem le_take_succ {L N : LP} {k : Nat} {s : Int × Int} (hk : L[k]? = some s) (h : Le N s.1) (f : Int) (hf : Le (L.take (k + 1)) f) : Le N f := by
  refine h.mono (hf s ?_)
  rw [List.take_add_one, hk]
  simp
set_option maxRecDepth 100000 in
set_option maxHeartbeats 4000000 in
theorem normal_any {w : World} {v : Value} {L : LP} (h : Its w v L) (h9 : L.length ≤ 500) :
    Calls Try.prog 22 #[v] w fun e w' => (∃ r N, e = .returned r ∧ Spans w' w.heap.size r N ∧ Is N (hasB L) ∧ N.length ≤ L.length) ∧ Below w.heap.size w w' := by
  have H := Lib.hid h
  by_cases hc : Canon L
  · have HV := Lib.hid (valid_any true (by simp [hc]) h (by omega))
    have HC := Lib.hid hc
    clear h hc
    go_enter Try.func22, Try.ntmps22
    go_wp2_with (first
      | (go_at_call 24; with_reducible refine HV.out.mono ?_; rintro e w1 ⟨rfl, b1⟩; have C1 := Lib.hid (clone_any (H.out.keep b1) (by omega)); replace b1 := Lib.hid b1)
      | (go_at_call 57; with_reducible refine C1.out.mono ?_; rintro e w2 ⟨⟨r, rfl, O2⟩, b2⟩))
    go_ret
    exact ⟨⟨_, L, rfl, own_mono O2 b1.out.size, Is.self HC.out, Nat.le_refl _⟩, Buf.then_ b1.out b2⟩
  · have HV := Lib.hid (valid_any false (by simp [hc]) h (by omega))
    have hne : Hid (L ≠ []) := Lib.hid (fun e => hc (e ▸ Canon.nil))
    clear h hc
    go_enter Try.func22, Try.ntmps22
    go_wp2_with (first
      | (go_at_call 24; with_reducible refine HV.out.mono ?_; rintro e w1 ⟨rfl, b1⟩; have C1 := Lib.hid (clone_any (H.out.keep b1) (by omega)); replace b1 := Lib.hid b1)
      | (go_at_call 57; with_reducible refine C1.out.mono ?_; rintro e w2 ⟨⟨r, rfl, O2⟩, b2⟩))
    rcases own_shape O2 with ⟨rfl, hn⟩ | ⟨g, c, rfl, hcc, hg⟩
    · exact absurd (List.length_eq_zero_iff.1 hn) hne.out
    · obtain ⟨n, hn⟩ : ∃ n, n = L.length := ⟨_, rfl⟩
      have hgB := (O2.lt g rfl).1
      unfold Spans at O2
      rw [← hn] at O2 h9 hcc ⊢
      have HO := Lib.hid O2
      have B2 := Lib.hid (Buf.then_ b1.out b2)
      have hw1 := b1.out.size
      have hw2 := b2.size
      replace hn := Lib.hid hn
      clear O2 b1 b2 HV C1 H
      refine (sort_any hn.out (by omega) HO.out hcc hg).mono ?_
      rintro e w3 ⟨rfl, L', hl, hperm, hs, I3, G3⟩
      have HP := Lib.hid hperm
      have HS := Lib.hid hs
      have HL := Lib.hid hl
      have HI := Lib.hid I3
      have W3 : Hid (Below w.heap.size w w3) := Lib.hid (B2.out.grown G3 (Nat.le_trans hw1 hw2) (fun k hk => by cases hk; omega))
      have hg3 : g < w3.heap.size := Nat.lt_of_lt_of_le hg G3.size
      have hcell : Hid (∀ (k : Nat) (p : Int × Int), L'[k]? = some p → w3.cell? ⟨g, k * 2, none⟩ = some (.int .i64 p.1) ∧ w3.cell? ⟨g, k * 2 + 1, none⟩ = some (.int .i64 p.2)) := by
        rcases I3 with ⟨h, _⟩ | ⟨g', c', e, _, _, h⟩
        · cases h
        · cases e; exact Lib.hid h
      have hw3 : Hid (w.heap.size ≤ w3.heap.size) := Lib.hid W3.out.size
      have A0 := Lib.hid (Below.refl w3.heap.size w3)
      have Z0 : Hid (Spans w3 w3.heap.size (.slice none 0 0) []) := Lib.hid (World.ownsRow_nil _ _ _ _)
      clear hperm hs I3 G3 HO B2 hl hcc
      go_wp2_with fail
      go_loopw [17, 4] (fun i s wr => ∃ (k : Nat) (N : LP), k ≤ n ∧ i = .int .i64 k ∧ Hid (Spans wr w3.heap.size s N) ∧ Hid (Is N (hasB (L'.take k))) ∧ Hid (N.length ≤ k) ∧ Hid (∀ f, Le (L'.take k) f → Le N f) ∧ Hid (Below w3.heap.size w3 wr)) (fun i _ _ => n - (intOf i).toNat)
      case atStart => exact ⟨0, [], Nat.zero_le _, rfl, Z0, Lib.hid (Is.nil (by simp [hasB])), Lib.hid (Nat.le_refl _), Lib.hid (fun f _ => Le.nil f), A0⟩
      case round =>
        clear A0 Z0
        obtain ⟨k, N, hk, rfl, HO, HJ, HN, HF, HB⟩ := hrel
        by_cases hlt : k < n
        · obtain ⟨⟨f, t⟩, hp⟩ : ∃ p, L'[k]? = some p := ⟨L'[k]'(by rw [HL.out]; exact hlt), List.getElem?_eq_getElem _⟩
          obtain ⟨q0, q1⟩ := hcell.out k _ hp
          have k0 := (HB.out.cell (p := ⟨g, _, none⟩) hg3).trans q0
          have k1 := (HB.out.cell (p := ⟨g, _, none⟩) hg3).trans q1
          dsimp only at k0 k1
          have hle := HF.out f (le_sorted HS.out hp)
          have B1 := Lib.hid (HB.out.alloc HB.out.size (.cells #[.int .i64 f, .int .i64 t] 49))
          have O1 := Lib.hid (own_below HO.out (new_block (.cells #[.int .i64 f, .int .i64 t] 49)))
          have hn1 := HN.out
          have C := Lib.hid (add_any f t O1.out B1.out.size (by omega))
          have A2 := Lib.hid (HJ.out.add (s := (f, t)) hle)
          have A3 := addL_spec HJ.out.canon (s := (f, t)) hle
          have A4 : Hid (Is (addL N (f, t)) (hasB (L'.take (k + 1)))) := Lib.hid (A2.out.congr fun x => (take_succ_has L' k _ hp x).symm)
          have A5 : Hid ((addL N (f, t)).length ≤ k + 1) := Lib.hid (by have := A3.2.2.2; omega)
          have A6 : Hid (∀ f', Le (L'.take (k + 1)) f' → Le (addL N (f, t)) f') := Lib.hid fun f' hf => le_take_succ hp A3.2.2.1 f' hf
          clear q0 q1 hp A3 hle A2 HJ HN HF
          go_wp2_with fail
          refine C.out.mono ?_
          rintro e w4 ⟨⟨s', rfl, O4, hk4⟩, G4⟩
          have B4 := Lib.hid (B1.out.grown G4 B1.out.size (fun k hk => (O1.out.lt k hk).1))
          go_wp2_with fail
          go_roundw
          case rel => exact ⟨k + 1, addL N (f, t), by omega, by go_num, Lib.hid O4, A4, A5, A6, B4⟩
          case measure => simp [intOf]; omega
        · obtain rfl : k = n := by omega
          go_wp2_with fail
          go_ret
          refine ⟨⟨_, N, rfl, own_mono HO.out hw3.out, ?_, by rw [← hn.out]; exact HN.out⟩, W3.out.trans (HB.out.mono hw3.out)⟩
          rw [take_all L' k (by rw [HL.out]; exact Nat.le_refl _)] at HJ
          exact HJ.out.congr fun x => hasB_perm HP.out.symm x
end Spn
end Go.Proofs.Ytfmhfhggogjbkaa
