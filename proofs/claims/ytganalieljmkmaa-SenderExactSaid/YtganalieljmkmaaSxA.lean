/- Senders of any numbers and strings: memory, Valid, Next, New of both packages. -/
import Derived.Test.YtganalieljmkmaaSnd
import Derived.Test.YtganalieljmkmaaWithinN
import Derived.Deep.DeepCutAuto
set_option linter.unusedVariables false
set_option linter.unusedSimpArgs false
namespace Go.Proofs.Ytganalieljmkmaa
open Go.RowKit Dice Wi
namespace Sx
open Snd (cells3 free3)
abbrev LS := List ByteArray
/-- A list of strings that can be read, wherever it begins. -/
def Stw (w : World) (v : Value) (S : LS) : Prop :=
  ∃ ad c, v = .slice ad S.length c ∧ S.length ≤ c ∧ c ≤ maxLen ∧ ∀ (k : Nat) (s : ByteArray), S[k]? = some s → ∃ g o, ad = some ⟨g, o, none⟩ ∧ g < w.heap.size ∧ w.cell? ⟨g, o + k, none⟩ = some (.string s)
theorem Stw.keep {w w' : World} {v : Value} {S : LS} (h : Stw w v S) (hb : Below w.heap.size w w') : Stw w' v S := by
  obtain ⟨ad, c, e, hc, hm, hf⟩ := h
  refine ⟨ad, c, e, hc, hm, fun k p hp => ?_⟩
  obtain ⟨g, o, e, hg, h0⟩ := hf k p hp
  exact ⟨g, o, e, Nat.lt_of_lt_of_le hg hb.size, (hb.cell (p := ⟨g, _, none⟩) hg).trans h0⟩
theorem Stw.far {w w' : World} {v : Value} {S : LS} {d : Nat} (h : Stw w v S) (hg : w.grownBy w' (some d)) (hd : S ≠ [] → v.ownBlock ≠ some d) : Stw w' v S := by
  obtain ⟨ad, c, rfl, hc, hm, hf⟩ := h
  refine ⟨ad, c, rfl, hc, hm, fun k p hp => ?_⟩
  obtain ⟨g, o, rfl, hl, k0⟩ := hf k p hp
  have hne : some g ≠ some d := fun e => hd (by rintro rfl; cases hp) (by simpa [Value.ownBlock] using e)
  exact ⟨g, o, rfl, Nat.lt_of_lt_of_le hl hg.size, hg.cell k0 hne⟩
theorem Stw.apart {w : World} {v : Value} {S : LS} {d : Nat} (h : Stw w v S) (hd : w.heap.size ≤ d) : S ≠ [] → v.ownBlock ≠ some d := by
  intro hL e
  obtain ⟨ad, c, rfl, hc, _, hf⟩ := h
  cases S with
  | nil => exact hL rfl
  | cons p l =>
    obtain ⟨g, o, rfl, hg, _⟩ := hf 0 p rfl
    have : g = d := by simpa [Value.ownBlock] using e
    omega
/-- A store into a block without strings leaves a list of strings as it is. -/
theorem Stw.set {w : World} {v : Value} {S : LS} (h : Stw w v S) {p o : Nat} {cs : Array Value} {t : TypeId} (hp : w.heap[p]? = some (.cells cs t (0, 0))) (hn : ∀ (i : Nat) (s : ByteArray), cs[i]? ≠ some (.string s)) (u : Value) : Stw (w.setCell ⟨p, o, none⟩ u) v S := by
  obtain ⟨ad, c, rfl, hc, hm, hf⟩ := h
  refine ⟨ad, c, rfl, hc, hm, fun k s hs => ?_⟩
  obtain ⟨g, o', rfl, hg, k1⟩ := hf k s hs
  refine ⟨g, o', rfl, by simpa [World.setCell] using hg, ?_⟩
  have hne : p ≠ g := by
    rintro rfl
    rw [cell_of_row w p _ _ _ _ hp] at k1
    exact hn _ _ k1
  exact (World.cell?_setCell_far _ _ _ _ hne).trans k1
theorem Stw.form {w : World} {v : Value} {S : LS} (h : Stw w v S) : ∃ a n c, v = .slice a n c := by
  obtain ⟨a, c, e, _⟩ := h
  exact ⟨a, _, c, e⟩
theorem Stw.nil (w : World) : Stw w (.slice none 0 0) [] := ⟨none, 0, rfl, Nat.le_refl _, by decide, fun k s h => by cases h⟩
theorem Stw.len {w : World} {a : Option Addr} {n c : Nat} {S : LS} (h : Stw w (.slice a n c) S) : n = S.length ∧ n ≤ c ∧ c ≤ maxLen := by
  obtain ⟨ad, c', e, hc, hm, _⟩ := h
  cases e
  exact ⟨rfl, hc, hm⟩
/-- A valid sender. -/
def OkS (size first : Int) (S : LS) : Prop := 1 ≤ size ∧ size ≤ 256 ∧ 0 ≤ first ∧ (S.length : Int) ≤ size ∧ first + S.length ≤ 1073741825 ∧ ∀ s ∈ S, s.size ≤ 4064
noncomputable def okB (size first : Int) (S : LS) : Bool := @decide (OkS size first S) (Classical.propDecidable _)
theorem okB_yes {size first : Int} {S : LS} (h : OkS size first S) : okB size first S = true := by unfold okB; simp [h]
theorem okB_no {size first : Int} {S : LS} (h : ¬ OkS size first S) : okB size first S = false := by unfold okB; simp [h]
theorem okB_eq {size first : Int} {S : LS} {r : Bool} (h : r = true ↔ OkS size first S) : r = okB size first S := by
  by_cases c : OkS size first S
  · rw [okB_yes c, h.2 c]
  · rw [okB_no c, ← Bool.not_eq_true, h]; exact c
theorem in_no (n lo hi : Int) (w : World) (h : ¬ (lo ≤ n ∧ n ≤ hi)) :
    Calls Try.prog 28 #[.int .i64 n, .int .i64 lo, .int .i64 hi] w fun e w' => e = .returned (.bool false) ∧ ∃ m, w' = w.drewN m := by
  by_cases c : lo ≤ n
  · have d1 : decide (lo ≤ n) = true := decide_eq_true c
    have d2 : decide (n ≤ hi) = false := decide_eq_false (fun c2 => h ⟨c, c2⟩)
    go_enter Try.func28, Try.ntmps28
    go_wp2
    go_ret
    exact ⟨rfl, 0, rfl⟩
  · have d1 : decide (lo ≤ n) = false := decide_eq_false c
    go_enter Try.func28, Try.ntmps28
    go_wp2
    go_ret
    exact ⟨rfl, 0, rfl⟩
theorem in_ok (n lo hi : Int) (w : World) (h1 : lo ≤ n) (h2 : n ≤ hi) :
    Calls Try.prog 28 #[.int .i64 n, .int .i64 lo, .int .i64 hi] w fun e w' => e = .returned (.bool true) ∧ ∃ m, w' = w.drewN m := by
  go_enter Try.func28, Try.ntmps28
  go_wp2
  go_ret
  exact ⟨rfl, 0, rfl⟩
theorem all_take {S : LS} {k : Nat} {s : ByteArray} (h : ∀ x ∈ S.take k, x.size ≤ 4064) (hs : S[k]? = some s) (h1 : s.size ≤ 4064) : ∀ x ∈ S.take (k + 1), x.size ≤ 4064 := by
  intro x hx
  rw [List.take_add_one, hs] at hx
  rcases List.mem_append.1 hx with hx | hx
  · exact h x hx
  · simp at hx; subst hx; exact h1
theorem hop3 {w w' : World} {b : Nat} {o : Obj} (h : Below w.heap.size w w') (e : w.heap[b]? = some o) : w'.heap[b]? = some o := (h.block b (Array.getElem?_eq_some_iff.1 e).1).trans e
set_option maxHeartbeats 4000000 in
set_option maxRecDepth 100000 in
theorem valid_gen {w : World} {v : Value} {S : LS} (size first : Int) (h : Stw w v S) (h9 : S.length ≤ 1000) (r : Bool) (hr : r = true ↔ OkS size first S) :
    Calls Try.prog 15 #[.agg #[.int .i64 size, .int .i64 first, v]] w fun e w' => e = .returned (.bool r) ∧ Below w.heap.size w w' := by
  obtain ⟨ad, c, rfl, hc, hm, hf⟩ := h
  obtain ⟨n, hn⟩ : ∃ n, n = S.length := ⟨_, rfl⟩
  rw [← hn] at hc h9 ⊢
  replace hn := Lib.hid hn
  have F := Lib.hid hf
  have HR := Lib.hid hr
  clear hf hr hm
  go_enter Try.func15, Try.ntmps15
  obtain ⟨wb, hwb⟩ : ∃ wb, wb = w.alloc (.cells #[.int .i64 size, .int .i64 first, .slice ad n c] 25) := ⟨_, rfl⟩
  obtain ⟨bb, hbb⟩ : ∃ bb, bb = w.heap.size := ⟨_, rfl⟩
  have B0 := Lib.hid (show Below w.heap.size w wb by rw [hwb]; exact new_block _)
  have PX := Lib.hid (show wb.heap[bb]? = some (.cells #[.int .i64 size, .int .i64 first, .slice ad n c] 25 (0, 0)) by rw [hwb, hbb]; exact heap_alloc_new w _)
  go_upto_region 1 with fail
  rw [← hwb, ← hbb]
  clear hwb hbb
  obtain ⟨k0, k1, k2⟩ := cells3 PX.out
  by_cases c1 : 1 ≤ size ∧ size ≤ 256
  · by_cases c2 : (n : Int) ≤ size
    · have d1 : decide (size < (n : Int)) = false := decide_eq_false (by omega)
      by_cases c3 : 0 ≤ first ∧ first ≤ 1073741825 - (n : Int)
      · have FX := Lib.hid (show ∀ wx, Below wb.heap.size wb wx → ∀ (k : Nat) (s : ByteArray), S[k]? = some s → ∃ g o, ad = some ⟨g, o, none⟩ ∧ wx.cell? ⟨g, o + k, none⟩ = some (.string s) from fun wx hb k s hs => by
          obtain ⟨g, o, e, hg, h0⟩ := F.out k s hs
          exact ⟨g, o, e, ((Buf.then_ B0.out hb).cell (p := ⟨g, _, none⟩) hg).trans h0⟩)
        go_wp2_with (go_at_call 27; (first | refine (within_yes _ _ _ _ (by omega) (by omega)).mono ?_ | refine (within_no _ _ _ _ (by omega)).mono ?_); rintro e w1 ⟨rfl, m, rfl⟩)
        go_loopw [30] (fun i wr => ∃ k : Nat, k ≤ n ∧ i = .int .i64 k ∧ Hid (Below wb.heap.size wb wr) ∧ Hid (∀ x ∈ S.take k, x.size ≤ 4064)) (fun i _ => n - (intOf i).toNat)
        case atStart => exact ⟨0, Nat.zero_le _, rfl, Lib.hid (Buf.below_drewN (Below.refl _ _) _), Lib.hid (fun x hx => by simp at hx)⟩
        case round =>
          obtain ⟨k, hk, rfl, HB, HT⟩ := hrel
          obtain ⟨k0, k1, k2⟩ := cells3 (hop3 HB.out PX.out)
          by_cases hlt : k < n
          · obtain ⟨s, hs⟩ : ∃ s, S[k]? = some s := ⟨S[k]'(by rw [← hn.out]; exact hlt), List.getElem?_eq_getElem _⟩
            obtain ⟨g, o, rfl, q0⟩ := FX.out _ HB.out k s hs
            have b1 : (k : Int) < n := by omega
            by_cases hz : s.size ≤ 4064
            · have HT' := Lib.hid (all_take HT.out hs hz)
              have d2 : decide ((4064 : Int) < (s.size : Int)) = false := decide_eq_false (by omega)
              replace hs := Lib.hid hs
              clear HT
              go_wp2_with fail
              go_roundw
              case rel => exact ⟨k + 1, by omega, by go_num, HB, HT'⟩
              case measure => simp [intOf]; omega
            · obtain rfl : r = false := by
                rw [← Bool.not_eq_true, HR.out]
                rintro ⟨_, _, _, _, _, h⟩
                exact hz (h s (List.mem_of_getElem? hs))
              have d2 : decide ((4064 : Int) < (s.size : Int)) = true := decide_eq_true (by omega)
              replace hs := Lib.hid hs
              clear HT
              go_wp2_with fail
              go_ret
              exact ⟨rfl, Buf.then_ B0.out HB.out⟩
          · obtain rfl : k = n := by omega
            obtain rfl : r = true := HR.out.2 ⟨c1.1, c1.2, c3.1, by rw [← hn.out]; exact c2, by rw [← hn.out]; omega, fun s hs => HT.out s (by rw [hn.out, List.take_length]; exact hs)⟩
            go_wp2_with fail
            go_ret
            exact ⟨rfl, Buf.then_ B0.out HB.out⟩
      · obtain rfl : r = false := by
          rw [← Bool.not_eq_true, HR.out]
          rintro ⟨h1, h2, h3, h4, h5, _⟩
          rw [← hn.out] at h4 h5
          exact c3 ⟨h3, by omega⟩
        go_wp2_with (go_at_call 27; (first | refine (within_yes _ _ _ _ (by omega) (by omega)).mono ?_ | refine (within_no _ _ _ _ (by omega)).mono ?_); rintro e w1 ⟨rfl, m, rfl⟩)
        go_ret
        exact ⟨rfl, Buf.then_ B0.out (by first | exact Below.refl _ _ | exact Buf.below_drewN (Below.refl _ _) _ | exact Buf.below_drewN (Buf.below_drewN (Below.refl _ _) _) _)⟩
    · have d1 : decide (size < (n : Int)) = true := decide_eq_true (by omega)
      obtain rfl : r = false := by
        rw [← Bool.not_eq_true, HR.out]
        rintro ⟨h1, h2, h3, h4, h5, _⟩
        rw [← hn.out] at h4 h5
        exact c2 h4
      go_wp2_with (go_at_call 27; (first | refine (within_yes _ _ _ _ (by omega) (by omega)).mono ?_ | refine (within_no _ _ _ _ (by omega)).mono ?_); rintro e w1 ⟨rfl, m, rfl⟩)
      go_ret
      exact ⟨rfl, Buf.then_ B0.out (by first | exact Below.refl _ _ | exact Buf.below_drewN (Below.refl _ _) _ | exact Buf.below_drewN (Buf.below_drewN (Below.refl _ _) _) _)⟩
  · obtain rfl : r = false := by
      rw [← Bool.not_eq_true, HR.out]
      rintro ⟨h1, h2, h3, h4, h5, _⟩
      rw [← hn.out] at h4 h5
      exact c1 ⟨h1, h2⟩
    go_wp2_with (go_at_call 27; (first | refine (within_yes _ _ _ _ (by omega) (by omega)).mono ?_ | refine (within_no _ _ _ _ (by omega)).mono ?_); rintro e w1 ⟨rfl, m, rfl⟩)
    go_ret
    exact ⟨rfl, Buf.then_ B0.out (by first | exact Below.refl _ _ | exact Buf.below_drewN (Below.refl _ _) _ | exact Buf.below_drewN (Buf.below_drewN (Below.refl _ _) _) _)⟩
set_option maxHeartbeats 4000000 in
set_option maxRecDepth 100000 in
theorem refvalid_gen {w : World} {v : Value} {S : LS} (size first : Int) (h : Stw w v S) (h9 : S.length ≤ 1000) (r : Bool) (hr : r = true ↔ OkS size first S) :
    Calls Try.prog 16 #[.agg #[.int .i64 size, .int .i64 first, v]] w fun e w' => e = .returned (.bool r) ∧ Below w.heap.size w w' := by
  obtain ⟨ad, c, rfl, hc, hm, hf⟩ := h
  obtain ⟨n, hn⟩ : ∃ n, n = S.length := ⟨_, rfl⟩
  rw [← hn] at hc h9 ⊢
  replace hn := Lib.hid hn
  have F := Lib.hid hf
  have HR := Lib.hid hr
  clear hf hr hm
  go_enter Try.func16, Try.ntmps16
  obtain ⟨wb, hwb⟩ : ∃ wb, wb = w.alloc (.cells #[.int .i64 size, .int .i64 first, .slice ad n c] 25) := ⟨_, rfl⟩
  obtain ⟨bb, hbb⟩ : ∃ bb, bb = w.heap.size := ⟨_, rfl⟩
  have B0 := Lib.hid (show Below w.heap.size w wb by rw [hwb]; exact new_block _)
  have PX := Lib.hid (show wb.heap[bb]? = some (.cells #[.int .i64 size, .int .i64 first, .slice ad n c] 25 (0, 0)) by rw [hwb, hbb]; exact heap_alloc_new w _)
  go_upto_region 1 with fail
  rw [← hwb, ← hbb]
  clear hwb hbb
  obtain ⟨k0, k1, k2⟩ := cells3 PX.out
  by_cases c1 : 1 ≤ size ∧ size ≤ 256
  · by_cases c2 : (n : Int) ≤ size
    · have d1 : decide (size < (n : Int)) = false := decide_eq_false (by omega)
      by_cases c3 : 0 ≤ first ∧ first ≤ 1073741825 - (n : Int)
      · have FX := Lib.hid (show ∀ wx, Below wb.heap.size wb wx → ∀ (k : Nat) (s : ByteArray), S[k]? = some s → ∃ g o, ad = some ⟨g, o, none⟩ ∧ wx.cell? ⟨g, o + k, none⟩ = some (.string s) from fun wx hb k s hs => by
          obtain ⟨g, o, e, hg, h0⟩ := F.out k s hs
          exact ⟨g, o, e, ((Buf.then_ B0.out hb).cell (p := ⟨g, _, none⟩) hg).trans h0⟩)
        go_wp2_with (go_at_call 28; (first | refine (in_ok _ _ _ _ (by omega) (by omega)).mono ?_ | refine (in_no _ _ _ _ (by omega)).mono ?_); rintro e w1 ⟨rfl, m, rfl⟩)
        go_loopw [3] (fun i wr => ∃ k : Nat, k ≤ n ∧ i = .int .i64 k ∧ Hid (Below wb.heap.size wb wr) ∧ Hid (∀ x ∈ S.take k, x.size ≤ 4064)) (fun i _ => n - (intOf i).toNat)
        case atStart => exact ⟨0, Nat.zero_le _, rfl, Lib.hid (Buf.below_drewN (Below.refl _ _) _), Lib.hid (fun x hx => by simp at hx)⟩
        case round =>
          obtain ⟨k, hk, rfl, HB, HT⟩ := hrel
          obtain ⟨k0, k1, k2⟩ := cells3 (hop3 HB.out PX.out)
          by_cases hlt : k < n
          · obtain ⟨s, hs⟩ : ∃ s, S[k]? = some s := ⟨S[k]'(by rw [← hn.out]; exact hlt), List.getElem?_eq_getElem _⟩
            obtain ⟨g, o, rfl, q0⟩ := FX.out _ HB.out k s hs
            have b1 : (k : Int) < n := by omega
            by_cases hz : s.size ≤ 4064
            · have HT' := Lib.hid (all_take HT.out hs hz)
              have d2 : decide ((4064 : Int) < (s.size : Int)) = false := decide_eq_false (by omega)
              replace hs := Lib.hid hs
              clear HT
              go_wp2_with fail
              go_roundw
              case rel => exact ⟨k + 1, by omega, by go_num, HB, HT'⟩
              case measure => simp [intOf]; omega
            · obtain rfl : r = false := by
                rw [← Bool.not_eq_true, HR.out]
                rintro ⟨_, _, _, _, _, h⟩
                exact hz (h s (List.mem_of_getElem? hs))
              have d2 : decide ((4064 : Int) < (s.size : Int)) = true := decide_eq_true (by omega)
              replace hs := Lib.hid hs
              clear HT
              go_wp2_with fail
              go_ret
              exact ⟨rfl, Buf.then_ B0.out HB.out⟩
          · obtain rfl : k = n := by omega
            obtain rfl : r = true := HR.out.2 ⟨c1.1, c1.2, c3.1, by rw [← hn.out]; exact c2, by rw [← hn.out]; omega, fun s hs => HT.out s (by rw [hn.out, List.take_length]; exact hs)⟩
            go_wp2_with fail
            go_ret
            exact ⟨rfl, Buf.then_ B0.out HB.out⟩
      · obtain rfl : r = false := by
          rw [← Bool.not_eq_true, HR.out]
          rintro ⟨h1, h2, h3, h4, h5, _⟩
          rw [← hn.out] at h4 h5
          exact c3 ⟨h3, by omega⟩
        by_cases c4 : 0 ≤ first ∧ first ≤ 1073741825
        · have wp : IntKind.i64.wrap (first + (n : Int)) = first + (n : Int) := IntWalk.i64_in _ (by omega)
          have d3 : decide ((1073741825 : Int) < first + (n : Int)) = true := decide_eq_true (by omega)
          go_wp2_with (go_at_call 28; (first | refine (in_ok _ _ _ _ (by omega) (by omega)).mono ?_ | refine (in_no _ _ _ _ (by omega)).mono ?_); rintro e w1 ⟨rfl, m, rfl⟩)
          go_ret
          exact ⟨rfl, Buf.then_ B0.out (by first | exact Below.refl _ _ | exact Buf.below_drewN (Below.refl _ _) _ | exact Buf.below_drewN (Buf.below_drewN (Below.refl _ _) _) _)⟩
        · go_wp2_with (go_at_call 28; (first | refine (in_ok _ _ _ _ (by omega) (by omega)).mono ?_ | refine (in_no _ _ _ _ (by omega)).mono ?_); rintro e w1 ⟨rfl, m, rfl⟩)
          go_ret
          exact ⟨rfl, Buf.then_ B0.out (by first | exact Below.refl _ _ | exact Buf.below_drewN (Below.refl _ _) _ | exact Buf.below_drewN (Buf.below_drewN (Below.refl _ _) _) _)⟩
    · have d1 : decide (size < (n : Int)) = true := decide_eq_true (by omega)
      obtain rfl : r = false := by
        rw [← Bool.not_eq_true, HR.out]
        rintro ⟨h1, h2, h3, h4, h5, _⟩
        rw [← hn.out] at h4 h5
        exact c2 h4
      by_cases c4 : 0 ≤ first ∧ first ≤ 1073741825
      · go_wp2_with (go_at_call 28; (first | refine (in_ok _ _ _ _ (by omega) (by omega)).mono ?_ | refine (in_no _ _ _ _ (by omega)).mono ?_); rintro e w1 ⟨rfl, m, rfl⟩)
        go_ret
        exact ⟨rfl, Buf.then_ B0.out (by first | exact Below.refl _ _ | exact Buf.below_drewN (Below.refl _ _) _ | exact Buf.below_drewN (Buf.below_drewN (Below.refl _ _) _) _)⟩
      · go_wp2_with (go_at_call 28; (first | refine (in_ok _ _ _ _ (by omega) (by omega)).mono ?_ | refine (in_no _ _ _ _ (by omega)).mono ?_); rintro e w1 ⟨rfl, m, rfl⟩)
        go_ret
        exact ⟨rfl, Buf.then_ B0.out (by first | exact Below.refl _ _ | exact Buf.below_drewN (Below.refl _ _) _ | exact Buf.below_drewN (Buf.below_drewN (Below.refl _ _) _) _)⟩
  · obtain rfl : r = false := by
      rw [← Bool.not_eq_true, HR.out]
      rintro ⟨h1, h2, h3, h4, h5, _⟩
      rw [← hn.out] at h4 h5
      exact c1 ⟨h1, h2⟩
    go_wp2_with (go_at_call 28; (first | refine (in_ok _ _ _ _ (by omega) (by omega)).mono ?_ | refine (in_no _ _ _ _ (by omega)).mono ?_); rintro e w1 ⟨rfl, m, rfl⟩)
    go_ret
    exact ⟨rfl, Buf.then_ B0.out (by first | exact Below.refl _ _ | exact Buf.below_drewN (Below.refl _ _) _ | exact Buf.below_drewN (Buf.below_drewN (Below.refl _ _) _) _)⟩
end Sx
end Go.Proofs.Ytganalieljmkmaa
