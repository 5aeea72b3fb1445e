/- Spans that the dice make, with bounds; lists and sets told by which numbers they have; the contracts of the functions of span in these words; sane. -/
import Derived.Test.YtfmhfhggogjbkaaSpnE
import Derived.Test.YtfmhfhggogjbkaaSpnG
import Derived.Test.YtfmhfhggogjbkaaSpnH
set_option linter.unusedVariables false
set_option linter.unusedSimpArgs false
namespace Go.Proofs.Ytfmhfhggogjbkaa
open Go.RowKit Dice
namespace Spn
open Sp (cells2 cells2_snoc cells2_get Spans own_kept own_below own_mono own_shape own_left Geo_new)
set_option maxHeartbeats 4000000 in
theorem spans_any {W w : World} {g : Nat} {a : Option Addr} {len cap : Nat} {zs : List Int} (h : Di W w g a len cap zs) :
    Calls Try.prog 14 #[.pointer (some ⟨g, 0, none⟩)] w fun e w' => (∃ v l, e = .returned v ∧ Spans w' w.heap.size v l ∧ l.length ≤ 5 ∧ Inside l 0 64) ∧ Dice.Left W w w' g a len cap zs := by
  have H := Lib.hid h
  have L0 := Lib.hid (Dice.Left.refl h)
  have hlt := h.lt
  obtain ⟨i0, hi, hz0, hz1, hz2⟩ := info_get infoS
  clear h
  go_enter Try.func14, Try.ntmps14
  go_wp2_with fail
  refine (next_any 6 L0.out.di (by omega) (by omega)).mono ?_
  rintro e w1 ⟨⟨k0, rfl, m0, m1⟩, hl⟩
  obtain ⟨k, rfl⟩ := Int.eq_ofNat_of_zero_le m0
  replace L0 := Lib.hid hl
  clear hl
  go_wp2_with fail
  go_loopw [4, 3] (fun s4 s3 wr => ∃ (m : Nat) (l : LP), s4 = .int .i64 (m : Int) ∧ l.length + m ≤ 5 ∧ Hid (Inside l 0 64) ∧ Hid (Spans wr w.heap.size s3 l) ∧ Hid (Dice.Left W w wr g a len cap zs)) (fun s4 _ _ => (intOf s4).toNat)
  case atStart => exact ⟨k, [], rfl, by simp; omega, Lib.hid (by intro p hp; cases hp), Lib.hid (World.ownsRow_nil _ _ _ _), L0⟩
  case round =>
    clear L0
    obtain ⟨m, l, rfl, hm, BD, O, L⟩ := hrel
    by_cases hlt : 0 < m
    · have hlt' : (0 : Int) < m := by omega
      go_wp2_with fail
      refine (next_any 30 L.out.di (by omega) (by omega)).mono ?_
      rintro e w2 ⟨⟨f, rfl, f0, f1⟩, hl⟩
      replace O := Lib.hid (own_left O.out L.out.di (by decide) hl)
      replace L := Lib.hid (L.out.trans hl)
      clear hl
      go_wp2_with fail
      refine (next_any 8 L.out.di (by omega) (by omega)).mono ?_
      rintro e w3 ⟨⟨v, rfl, v0, v1⟩, hl⟩
      replace O := Lib.hid (own_left O.out L.out.di (by decide) hl)
      replace L := Lib.hid (L.out.trans hl)
      clear hl
      have BD' : Hid (Inside (l ++ [(f, f + v - 1)]) 0 64) := Lib.hid fun p hp => by
        rcases List.mem_append.1 hp with h | h
        · exact BD.out p h
        · simp at h; subst h; dsimp only; omega
      have one : Hid (∀ u ∈ [Value.int .i64 f, .int .i64 (f + v - 1)], u.oneCell' = true) := Lib.hid (by simp; exact ⟨rfl, rfl⟩)
      have hb3 := Lib.hid (Geo_new w3 (.cells #[.int .i64 f, .int .i64 (f + v - 1)] 49))
      have hown := Lib.hid (own_below O.out (new_block (.cells #[.int .i64 f, .int .i64 (f + v - 1)] 49)))
      have LA := Lib.hid (L.out.below (new_block (.cells #[.int .i64 f, .int .i64 (f + v - 1)] 49)))
      have hle : w.heap.size ≤ w3.heap.size := L.out.far.size
      go_wp2_with (at_builtin; refine wpList_append_lies _ rfl (.tmp 14) (.tmp 22) 23 rfl w.heap.size 49 i0 (.agg #[.int .i64 0, .int .i64 0]) 2 16 Try.underlying23 hi hz0 hz1 hz2 rfl (by decide) _ l.length (cells2 l) rfl hown.out ⟨w3.heap.size, 0, none⟩ 1 1 [.int .i64 f, .int .i64 (f + v - 1)] rfl rfl (World.news_of_block hb3.out) one.out (by decide) (by unfold maxLen; omega) (by omega) (by simp; omega) _ rfl ?_; intro gq cq w5 O2 G2 hg2 hl2)
      have O5 : Hid (Spans w5 w.heap.size (.slice (some ⟨gq, 0, none⟩) (l.length + 1) cq) (l ++ [(f, f + v - 1)])) := Lib.hid (by unfold Spans; rw [cells2_snoc]; simpa using O2)
      have L5 := Lib.hid (Dice.Left.past H.out LA.out ⟨G2.os, G2.tape, G2.output, G2.size, fun k hk => G2.block k (by simp; omega) (fun he => by have := (hown.out.lt k he.symm).1; omega)⟩)
      obtain ⟨m1, rfl⟩ : ∃ m1, m = m1 + 1 := ⟨m - 1, by omega⟩
      clear O2 G2 hg2 hl2 hown LA hb3 one
      go_roundw
      case rel => exact ⟨m1, l ++ [(f, f + v - 1)], by go_num, by simp; omega, BD', O5, L5⟩
      case measure => simp [intOf]
    · obtain rfl : m = 0 := by omega
      go_wp2
      go_ret
      exact ⟨⟨_, l, rfl, O.out, by omega, BD.out⟩, L.out⟩
theorem bd_of_inside {L : LP} (h : Inside L 0 64) {x : Int} (hx : hasB L x = true) : 0 ≤ x ∧ x < 64 := by
  obtain ⟨p, hp, p1, p2⟩ := hasB_iff.1 hx
  have := h p hp
  omega
theorem inside_of_bd {N : LP} (h : Canon N) (hx : ∀ x, hasB N x = true → 0 ≤ x ∧ x < 64) : Inside N 0 64 := by
  intro p hp
  have h1 := h.one p hp
  have a := hx p.1 (hasB_iff.2 ⟨p, hp, by omega, by omega⟩)
  have b := hx (p.2 - 1) (hasB_iff.2 ⟨p, hp, by omega, by omega⟩)
  omega
/-- A list that has the numbers f. -/
def Rv (w : World) (v : Value) (f : Int → Bool) (k : Nat) : Prop := ∃ L, Its w v L ∧ (∀ x, hasB L x = f x) ∧ L.length ≤ k ∧ Inside L 0 64
/-- A set that has the numbers f. -/
def Sv (w : World) (v : Value) (f : Int → Bool) (k : Nat) : Prop := ∃ N, Its w v N ∧ Is N f ∧ N.length ≤ k ∧ Inside N 0 64
theorem Rv.keep {w w' : World} {v : Value} {f : Int → Bool} {k : Nat} (h : Rv w v f k) (hb : Below w.heap.size w w') : Rv w' v f k := by
  obtain ⟨L, h1, h2⟩ := h
  exact ⟨L, h1.keep hb, h2⟩
theorem Sv.keep {w w' : World} {v : Value} {f : Int → Bool} {k : Nat} (h : Sv w v f k) (hb : Below w.heap.size w w') : Sv w' v f k := by
  obtain ⟨L, h1, h2⟩ := h
  exact ⟨L, h1.keep hb, h2⟩
theorem Sv.rv {w : World} {v : Value} {f : Int → Bool} {k : Nat} (h : Sv w v f k) : Rv w v f k := by
  obtain ⟨N, h1, h2, h3, h4⟩ := h
  exact ⟨N, h1, h2.has, h3, h4⟩
theorem Rv.bd {w : World} {v : Value} {f : Int → Bool} {k : Nat} (h : Rv w v f k) {x : Int} (hx : f x = true) : 0 ≤ x ∧ x < 64 := by
  obtain ⟨L, h1, h2, h3, h4⟩ := h
  exact bd_of_inside h4 (by rw [h2]; exact hx)
theorem Rv.of {w : World} {B : Nat} {v : Value} {L : LP} (h : Spans w B v L) (hl : L.length ≤ 5) (hI : Inside L 0 64) : Rv w v (hasB L) 5 := ⟨L, its_of_own h, fun _ => rfl, hl, hI⟩
/-- What a function that makes a set returns. -/
def Made (w : World) (f : Int → Bool) (k : Nat) (e : Ending) (w' : World) : Prop := (∃ r, e = .returned r ∧ Sv w' r f k) ∧ Below w.heap.size w w'
theorem made {w w' : World} {e : Ending} {f : Int → Bool} {k : Nat} {B : Nat} (h : (∃ r N, e = .returned r ∧ Spans w' B r N ∧ Is N f ∧ N.length ≤ k) ∧ Below w.heap.size w w') (hf : ∀ x, f x = true → 0 ≤ x ∧ x < 64) : Made w f k e w' := by
  obtain ⟨⟨r, N, h1, h2, h3, h4⟩, h5⟩ := h
  exact ⟨⟨r, h1, N, its_of_own h2, h3, h4, inside_of_bd h3.canon fun x hx => hf x (by rw [← h3.has]; exact hx)⟩, h5⟩
theorem normal_sv {w : World} {v : Value} {f : Int → Bool} {k : Nat} (h : Rv w v f k) (hk : k ≤ 100) : Calls Try.prog 22 #[v] w (Made w f k) := by
  have hb := h
  obtain ⟨L, h1, h2, h3, h4⟩ := h
  refine (normal_any h1 (by omega)).mono fun e w' h => made (B := w.heap.size) ?_ fun x hx => hb.bd hx
  obtain ⟨⟨r, N, a1, a2, a3, a4⟩, a5⟩ := h
  exact ⟨⟨r, N, a1, a2, a3.congr h2, by omega⟩, a5⟩
theorem union_sv {w : World} {va vb : Value} {f g : Int → Bool} {k j : Nat} (ha : Rv w va f k) (hb : Rv w vb g j) (hk : k ≤ 100) (hj : j ≤ 100) : Calls Try.prog 16 #[va, vb] w (Made w (fun x => f x || g x) (k + j)) := by
  have hfa := ha
  have hfb := hb
  obtain ⟨A, h1, h2, h3, h4⟩ := ha
  obtain ⟨B, b1, b2, b3, b4⟩ := hb
  refine (union_any h1 b1 (by omega) (by omega)).mono fun e w' h => made (B := w.heap.size) ?_ fun x hx => ?_
  · obtain ⟨⟨r, N, a1, a2, a3, a4⟩, a5⟩ := h
    exact ⟨⟨r, N, a1, a2, a3.congr fun x => by rw [h2, b2], by omega⟩, a5⟩
  · rcases Bool.or_eq_true_iff.1 hx with hx | hx
    · exact hfa.bd hx
    · exact hfb.bd hx
theorem meet_sv {w : World} {va vb : Value} {f g : Int → Bool} {k j : Nat} (ha : Rv w va f k) (hb : Rv w vb g j) (hk : k ≤ 100) (hj : j ≤ 100) : Calls Try.prog 18 #[va, vb] w (Made w (fun x => f x && g x) (k + j)) := by
  have hfa := ha
  obtain ⟨A, h1, h2, h3, h4⟩ := ha
  obtain ⟨B, b1, b2, b3, b4⟩ := hb
  refine (meet_any h1 b1 (by omega) (by omega)).mono fun e w' h => made (B := w.heap.size) ?_ fun x hx => hfa.bd (Bool.and_eq_true_iff.1 hx).1
  obtain ⟨⟨r, N, a1, a2, a3, a4⟩, a5⟩ := h
  exact ⟨⟨r, N, a1, a2, a3.congr fun x => by rw [h2, b2], by omega⟩, a5⟩
theorem minus_sv {w : World} {va vb : Value} {f g : Int → Bool} {k j : Nat} (ha : Rv w va f k) (hb : Rv w vb g j) (hk : k ≤ 100) (hj : j ≤ 100) : Calls Try.prog 20 #[va, vb] w (Made w (fun x => f x && !g x) (j + 2 * k)) := by
  have hfa := ha
  obtain ⟨A, h1, h2, h3, h4⟩ := ha
  obtain ⟨B, b1, b2, b3, b4⟩ := hb
  refine (minus_any h1 b1 (by omega) (by omega)).mono fun e w' h => made (B := w.heap.size) ?_ fun x hx => hfa.bd (Bool.and_eq_true_iff.1 hx).1
  obtain ⟨⟨r, N, a1, a2, a3, a4⟩, a5⟩ := h
  exact ⟨⟨r, N, a1, a2, a3.congr fun x => by rw [h2, b2], by omega⟩, a5⟩
theorem cut_sv {w : World} {v : Value} {f : Int → Bool} {k : Nat} (x y : Int) (h : Rv w v f k) (hk : k ≤ 100) : Calls Try.prog 29 #[v, .int .i64 x, .int .i64 y] w (Made w (fun z => f z && decide (x ≤ z ∧ z < y)) (k + 1)) := by
  have hb := h
  obtain ⟨L, h1, h2, h3, h4⟩ := h
  refine (cut_any x y h1 (by omega)).mono fun e w' h => made (B := w.heap.size) ?_ fun x hx => hb.bd (Bool.and_eq_true_iff.1 hx).1
  obtain ⟨⟨r, N, a1, a2, a3, a4⟩, a5⟩ := h
  exact ⟨⟨r, N, a1, a2, a3.congr fun x => by rw [h2], by omega⟩, a5⟩
theorem same_sv {w : World} {va vb : Value} {f g : Int → Bool} {k j : Nat} (ha : Sv w va f k) (hb : Sv w vb g j) (he : ∀ x, f x = g x) (hk : k ≤ 1000) : Calls Try.prog 15 #[va, vb] w fun e w' => e = .returned (.bool true) ∧ Below w.heap.size w w' := by
  obtain ⟨A, h1, h2, h3, h4⟩ := ha
  obtain ⟨B, b1, b2, b3, b4⟩ := hb
  obtain rfl := h2.unique (b2.congr fun x => (he x).symm)
  exact same_yes h1 b1 (by omega)
theorem length_sv {w : World} {v : Value} {f : Int → Bool} {k : Nat} (h : Rv w v f k) (hk : k ≤ 100) : Calls Try.prog 35 #[v] w fun e w' => e = .returned (.tuple #[.int .i64 (cnt f 0 64), .bool true]) ∧ Below w.heap.size w w' := by
  have hb := h
  obtain ⟨L, h1, h2, h3, h4⟩ := h
  refine (length_any h1 (fun p hp => by have := h4 p hp; omega) (by omega)).mono ?_
  rintro e w' ⟨⟨N, hN, rfl⟩, b⟩
  refine ⟨?_, b⟩
  have hI : Inside N 0 (0 + (64 : Nat)) := inside_of_bd hN.canon fun x hx => by rw [hN.has] at hx; exact bd_of_inside h4 hx
  rw [lenL_cnt hN.canon hI, cnt_congr 0 hN.has, cnt_congr 0 h2]
theorem has_sv {w : World} {v : Value} {f : Int → Bool} {k : Nat} (x : Int) (h : Rv w v f k) (hk : k ≤ 100) : Calls Try.prog 27 #[v, .int .i64 x] w fun e w' => e = .returned (.bool (f x)) ∧ Below w.heap.size w w' := by
  obtain ⟨L, h1, h2, h3, h4⟩ := h
  rw [← h2]
  exact has_any x h1 (by omega)
theorem refhas_sv {w : World} {v : Value} {f : Int → Bool} {k : Nat} (x : Int) (h : Rv w v f k) (hk : k ≤ 100) : Calls Try.prog 28 #[v, .int .i64 x] w fun e w' => e = .returned (.bool (f x)) ∧ Below w.heap.size w w' := by
  obtain ⟨L, h1, h2, h3, h4⟩ := h
  rw [← h2]
  exact refhas_any x h1 (by omega)
theorem valid_sv {w : World} {v : Value} {f : Int → Bool} {k : Nat} (h : Sv w v f k) (hk : k ≤ 100) : Calls Try.prog 24 #[v] w fun e w' => e = .returned (.bool true) ∧ Below w.heap.size w w' := by
  obtain ⟨N, h1, h2, h3, h4⟩ := h
  exact valid_any true (by simp [h2.canon]) h1 (by omega)
theorem Sv.none {w : World} {v : Value} {f : Int → Bool} {k : Nat} (h : Sv w v f k) (hf : ∀ x, f x = false) : ∃ ad c, v = .slice ad 0 c := by
  obtain ⟨N, h1, h2, h3, h4⟩ := h
  obtain rfl : N = [] := h2.unique (Is.nil hf)
  obtain ⟨ad, c, h, _⟩ := its_form h1
  exact ⟨ad, c, h⟩
end Spn
end Go.Proofs.Ytfmhfhggogjbkaa
