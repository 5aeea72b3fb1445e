/- The example of the chapter: sane of layer 10. -/
import Derived.Test.YtganalieljmkmaaSndP
import Derived.Test.YtganalieljmkmaaSndG
import Derived.Deep.RegionLaw
set_option linter.unusedVariables false
namespace Go.Proofs.Ytganalieljmkmaa
open Go.RowKit Wi Dice
namespace Snd
theorem row_mono {B B' : Nat} {w : World} {a : Option Addr} {n cap : Nat} {ms : List ByteArray} (h : Row B w a n cap ms) (hB : B' ≤ B) : Row B' w a n cap ms := by
  refine ⟨h.1, ?_⟩
  rcases h.2 with h | ⟨g, off, e, h1, h2, h3, h4⟩
  · exact .inl h
  · exact .inr ⟨g, off, e, h1, h2, Nat.le_trans hB h3, h4⟩
theorem row_far {B b : Nat} {w : World} {a : Option Addr} {n cap : Nat} {ms : List ByteArray} (h : Row B w a n cap ms) (hb : b < B) (k : Nat) (v : Value) : Row B (w.setCell ⟨b, k, none⟩ v) a n cap ms := by
  refine ⟨h.1, ?_⟩
  rcases h.2 with h | ⟨g, off, e, h1, h2, h3, h4, h5⟩
  · exact .inl h
  · exact .inr ⟨g, off, e, h1, h2, h3, by simpa using h4, fun j hj => by rw [far (by omega)]; exact h5 j hj⟩
theorem st3 {w : World} {g : Nat} {x y z : Value} {t : TypeId} (h : w.heap[g]? = some (.cells #[x, y, z] t (0, 0))) (u v s : Value) :
    (((w.setCell ⟨g, 0, none⟩ u).setCell ⟨g, 1, none⟩ v).setCell ⟨g, 2, none⟩ s).heap[g]? = some (.cells #[u, v, s] t (0, 0)) := by
  have h1 := (heap_setCell_same w g 0 _ _ u h).trans rfl
  have h2 := (heap_setCell_same _ g 1 _ _ v h1).trans rfl
  exact (heap_setCell_same _ g 2 _ _ s h2).trans rfl
/-- The state of the example. -/
def ex : Nat → Int × List ByteArray
  | 0 => (0, [])
  | 1 => (0, [⟨#[97]⟩])
  | 2 => (0, [⟨#[97]⟩, ⟨#[98]⟩])
  | _ => (1, [⟨#[98]⟩, ⟨#[99]⟩])
def ExSt (W w : World) (b k : Nat) : Prop := ∃ a cap, w.heap[b]? = some (.cells #[.int .i64 2, .int .i64 (ex k).1, .slice a (ex k).2.length cap] 25 (0, 0)) ∧ Row (b + 1) w a (ex k).2.length cap (ex k).2 ∧ Below W.heap.size W w ∧ W.heap.size ≤ b
theorem ex_good (k : Nat) (hk : k ≤ 3) : Good 2 (ex k).1 (ex k).2.length (ex k).2 := by
  rcases (show k = 0 ∨ k = 1 ∨ k = 2 ∨ k = 3 by omega) with rfl | rfl | rfl | rfl <;> refine ⟨by decide, by decide, by decide, by decide, by decide, ?_⟩ <;> simp only [ex] <;> intro j hj <;> (rcases (show j = 0 ∨ j = 1 ∨ 2 ≤ j by omega) with rfl | rfl | h2 <;> first | decide | (simp at hj; try omega))
def PC (wr : World) (a : Option Addr) (cap : Nat) (f : Int) (n : Nat) (ms : List ByteArray) (data : ByteArray) : Prop :=
  ∀ w', Below wr.heap.size wr w' → Calls Try.prog 12 #[.agg #[.int .i64 2, .int .i64 f, .slice a n cap], .string data] w' fun e w'' => Pushed w'.heap.size w'' 2 f n ms data e ∧ Below w'.heap.size w' w''
theorem ex_next {W w : World} {b k : Nat} (hk : k < 3) {a0 a' : Option Addr} {n' n0 cap0 cap' : Nat} {f' f0 : Int} {ms' : List ByteArray} {B : Nat} (hB : b + 1 ≤ B)
    (T : w.heap[b]? = some (.cells #[.int .i64 2, .int .i64 f0, .slice a0 n0 cap0] 25 (0, 0))) (hr : Row B w a' n' cap' ms') (hn : n0 = (ex k).2.length)
    (hor : (((ex k).2.length : Int) + 1 ≤ 2 ∧ f' = (ex k).1 ∧ ms' = (ex k).2 ++ [(match k with | 0 => (⟨#[97]⟩ : ByteArray) | 1 => ⟨#[98]⟩ | _ => ⟨#[99]⟩)]) ∨ (((ex k).2.length : Int) = 2 ∧ f' = (ex k).1 + 1 ∧ ms' = ((ex k).2 ++ [(match k with | 0 => (⟨#[97]⟩ : ByteArray) | 1 => ⟨#[98]⟩ | _ => ⟨#[99]⟩)]).drop 1))
    (hW : Below W.heap.size W w) (hb : W.heap.size ≤ b) :
    ExSt W (((w.setCell ⟨b, 0, none⟩ (.int .i64 2)).setCell ⟨b, 1, none⟩ (.int .i64 f')).setCell ⟨b, 2, none⟩ (.slice a' n' cap')) b (k + 1) := by
  have e1 : f' = (ex (k + 1)).1 ∧ ms' = (ex (k + 1)).2 := by
    rcases (show k = 0 ∨ k = 1 ∨ k = 2 by omega) with rfl | rfl | rfl <;> rcases hor with ⟨h1, h2, h3⟩ | ⟨h1, h2, h3⟩ <;> simp only [ex, List.length_nil, List.length_cons] at h1 h2 h3 ⊢ <;> first | omega | exact ⟨by simpa using h2, by simpa using h3⟩
  obtain ⟨rfl, rfl⟩ := e1
  have hn' := hr.1
  subst hn'
  exact ⟨a', cap', st3 T _ _ _, row_far (row_far (row_far (row_mono hr hB) (by omega) _ _) (by omega) _ _) (by omega) _ _, ((hW.setCell hb _).setCell hb _).setCell hb _, hb⟩
set_option maxHeartbeats 8000000 in
theorem sane_any (w : World) : Calls Try.prog 7 #[] w fun e w' => e = .returned (.bool true) ∧ Below w.heap.size w w' := by
  go_enter Try.func7, Try.ntmps7
  go_wp2_with (go_at_call 24; refine (new_any 2 (by omega) (by omega)).mono ?_; rintro e w4 ⟨rfl, hb⟩)
  have E0 : Hid (ExSt w (w4.alloc (.cells #[.int .i64 2, .int .i64 0, .slice none 0 0] 25)) w4.heap.size 0) := Lib.hid ⟨none, 0, heap_alloc_new _ _, ⟨rfl, .inl ⟨rfl, rfl, rfl⟩⟩, Buf.then_ hb (new_block _), hb.size⟩
  clear hb
  go_loopw [2, 3] (fun e i wr => ∃ k : Nat, k ≤ 3 ∧ i = .int .i64 k ∧ e = .int .i64 0 ∧ Hid (ExSt w wr w4.heap.size k)) (fun _ i _ => 3 - (intOf i).toNat)
  case atStart => exact ⟨0, by omega, rfl, rfl, E0⟩
  case round =>
    clear E0
    obtain ⟨k, hk, rfl, rfl, E⟩ := hrel
    by_cases hlt : k < 3
    · obtain ⟨a, cap, hblk, hrow, hbel, hle⟩ := E.out
      have HG := Lib.hid (ex_good k hk)
      have HB := Lib.hid hblk
      obtain ⟨c0, c1, c2⟩ := cells3 hblk
      obtain ⟨f0, f1, f2⟩ := free3 hblk
      have W1 := Lib.hid hbel
      clear E hbel
      rcases (show k = 0 ∨ k = 1 ∨ k = 2 by omega) with rfl | rfl | rfl
      · rw [show ((0 : Nat) : Int) = 0 from rfl]
        have P : Hid (PC wr a cap 0 0 [] ⟨#[97]⟩) := Lib.hid (fun w' hb => push_any 2 0 _ HG.out (by decide) (hrow.below hb))
        simp only [ex, List.length_nil] at c0 c1 c2
        have lt := (Array.getElem?_eq_some_iff.1 HB.out).1
        go_wp2_with fail
        go_region_with (go_at_call 12; have hh := P.out _ (((Below.refl _ _).alloc (Nat.le_refl _) (.cells #[.string ⟨#[97]⟩, .string ⟨#[98]⟩, .string ⟨#[99]⟩] 9)).drew); refine hh.mono ?_; clear hh; rintro e w5 ⟨⟨a', n', cap', ms', f', rfl, hrow', hor⟩, hb⟩; have T := Lib.hid ((hb.block w4.heap.size (by simp <;> omega)).trans ((heap_alloc_old wr _ lt).trans HB.out)); obtain ⟨c0', c1', c2'⟩ := cells3 T.out; obtain ⟨f0', f1', f2'⟩ := free3 T.out; have W5 := Lib.hid (Buf.then_ W1.out (Buf.then_ ((Below.refl _ _).alloc (Nat.le_refl _) _).drew hb)); replace hrow' := Lib.hid (row_mono hrow' (B' := w4.heap.size + 1) (by simp <;> omega)); replace hor := Lib.hid hor; clear hb)
        all_goals
          go_wp2
          go_roundw
          case rel => exact ⟨1, by omega, rfl, rfl, Lib.hid (ex_next (by decide) (Nat.le_refl _) T.out hrow'.out rfl hor.out W5.out hle)⟩
          case measure => simp [intOf]
      · rw [show ((1 : Nat) : Int) = 1 from rfl]
        have P : Hid (PC wr a cap 0 1 [⟨#[97]⟩] ⟨#[98]⟩) := Lib.hid (fun w' hb => push_any 2 0 _ HG.out (by decide) (hrow.below hb))
        simp only [ex, List.length_nil, List.length_cons] at c0 c1 c2
        have lt := (Array.getElem?_eq_some_iff.1 HB.out).1
        go_wp2_with fail
        go_region_with (go_at_call 12; have hh := P.out _ (((Below.refl _ _).alloc (Nat.le_refl _) (.cells #[.string ⟨#[97]⟩, .string ⟨#[98]⟩, .string ⟨#[99]⟩] 9)).drew); refine hh.mono ?_; clear hh; rintro e w5 ⟨⟨a', n', cap', ms', f', rfl, hrow', hor⟩, hb⟩; have T := Lib.hid ((hb.block w4.heap.size (by simp <;> omega)).trans ((heap_alloc_old wr _ lt).trans HB.out)); obtain ⟨c0', c1', c2'⟩ := cells3 T.out; obtain ⟨f0', f1', f2'⟩ := free3 T.out; have W5 := Lib.hid (Buf.then_ W1.out (Buf.then_ ((Below.refl _ _).alloc (Nat.le_refl _) _).drew hb)); replace hrow' := Lib.hid (row_mono hrow' (B' := w4.heap.size + 1) (by simp <;> omega)); replace hor := Lib.hid hor; clear hb)
        all_goals
          go_wp2
          go_roundw
          case rel => exact ⟨2, by omega, rfl, rfl, Lib.hid (ex_next (by decide) (Nat.le_refl _) T.out hrow'.out rfl hor.out W5.out hle)⟩
          case measure => simp [intOf]
      · rw [show ((2 : Nat) : Int) = 2 from rfl]
        have P : Hid (PC wr a cap 0 2 [⟨#[97]⟩, ⟨#[98]⟩] ⟨#[99]⟩) := Lib.hid (fun w' hb => push_any 2 0 _ HG.out (by decide) (hrow.below hb))
        simp only [ex, List.length_nil, List.length_cons] at c0 c1 c2
        have lt := (Array.getElem?_eq_some_iff.1 HB.out).1
        go_wp2_with fail
        go_region_with (go_at_call 12; have hh := P.out _ (((Below.refl _ _).alloc (Nat.le_refl _) (.cells #[.string ⟨#[97]⟩, .string ⟨#[98]⟩, .string ⟨#[99]⟩] 9)).drew); refine hh.mono ?_; clear hh; rintro e w5 ⟨⟨a', n', cap', ms', f', rfl, hrow', hor⟩, hb⟩; have T := Lib.hid ((hb.block w4.heap.size (by simp <;> omega)).trans ((heap_alloc_old wr _ lt).trans HB.out)); obtain ⟨c0', c1', c2'⟩ := cells3 T.out; obtain ⟨f0', f1', f2'⟩ := free3 T.out; have W5 := Lib.hid (Buf.then_ W1.out (Buf.then_ ((Below.refl _ _).alloc (Nat.le_refl _) _).drew hb)); replace hrow' := Lib.hid (row_mono hrow' (B' := w4.heap.size + 1) (by simp <;> omega)); replace hor := Lib.hid hor; clear hb)
        all_goals
          go_wp2
          go_roundw
          case rel => exact ⟨3, by omega, rfl, rfl, Lib.hid (ex_next (by decide) (Nat.le_refl _) T.out hrow'.out rfl hor.out W5.out hle)⟩
          case measure => simp [intOf]
    · obtain rfl : k = 3 := by omega
      obtain ⟨a, cap, hblk, hrow, hbel, hle⟩ := E.out
      have HG := Lib.hid (ex_good 3 hk)
      have HB := Lib.hid hblk
      have HR := Lib.hid hrow
      have W1 := Lib.hid hbel
      obtain ⟨c0, c1, c2⟩ := cells3 hblk
      simp only [ex, List.length_nil, List.length_cons] at c0 c1 c2
      clear E hbel hrow hblk
      go_wp2_with fail
      refine (get_any 2 1 0 HG.out (by omega) (by omega) HR.out).mono ?_
      rintro e w5 ⟨he, hb⟩
      obtain rfl : e = .returned (.tuple #[.string ⟨#[]⟩, .bool false]) := by
        rcases he with ⟨j, _, h, _⟩ | ⟨_, h⟩
        · omega
        · exact h
      replace HB := Lib.hid ((hb.block _ (Array.getElem?_eq_some_iff.1 HB.out).1).trans HB.out)
      replace HR := Lib.hid (HR.out.below hb)
      replace W1 := Lib.hid (Buf.then_ W1.out hb)
      obtain ⟨c0', c1', c2'⟩ := cells3 HB.out
      simp only [ex, List.length_nil, List.length_cons] at c0' c1' c2'
      clear hb c0 c1 c2
      go_wp2_with fail
      refine (get_any 2 1 1 HG.out (by omega) (by omega) HR.out).mono ?_
      rintro e w6 ⟨he, hb⟩
      obtain rfl : e = .returned (.tuple #[.string ⟨#[98]⟩, .bool true]) := by
        rcases he with ⟨j, _, h, h'⟩ | ⟨h, _⟩
        · obtain rfl : j = 0 := by omega
          exact h'
        · simp only [ex, List.length_cons, List.length_nil] at h; omega
      replace HB := Lib.hid ((hb.block _ (Array.getElem?_eq_some_iff.1 HB.out).1).trans HB.out)
      replace W1 := Lib.hid (Buf.then_ W1.out hb)
      obtain ⟨d0, d1, d2⟩ := cells3 HB.out
      simp only [ex, List.length_nil, List.length_cons] at d0 d1 d2
      clear hb c0' c1' c2' HR
      go_wp2_with (go_at_call 17; refine (next_any 2 1 (by omega) (by omega) (by omega)).mono ?_; rintro e w7 ⟨rfl, hb⟩; have d1' := (hb.cell (p := ⟨w4.heap.size, 1, none⟩) (Array.getElem?_eq_some_iff.1 HB.out).1).trans d1)
      go_ret
      exact ⟨rfl, Buf.then_ W1.out hb⟩
end Snd
end Go.Proofs.Ytganalieljmkmaa
