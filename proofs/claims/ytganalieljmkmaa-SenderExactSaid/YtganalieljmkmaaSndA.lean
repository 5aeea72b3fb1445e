/- Spans that the dice make; whether a number is in one of them. -/
import Derived.Test.YtganalieljmkmaaDiceN
import Derived.Laws.AppendOwn
import Derived.Laws.OwnMore
import Derived.Deep.AppendLies
set_option linter.unusedVariables false
set_option linter.unusedSimpArgs false
namespace Go.Proofs.Ytganalieljmkmaa
open Go.RowKit
namespace Sp
open Dice
/-- The cells of pairs. -/
def cells2 (l : List (Int × Int)) : List Value := l.flatMap fun p => [.int .i64 p.1, .int .i64 p.2]
theorem cells2_snoc (l : List (Int × Int)) (x y : Int) : cells2 (l ++ [(x, y)]) = cells2 l ++ [.int .i64 x, .int .i64 y] := by simp [cells2, List.flatMap_append]
theorem cells2_get (l : List (Int × Int)) (k : Nat) (p : Int × Int) (h : l[k]? = some p) : (cells2 l)[k * 2]? = some (.int .i64 p.1) ∧ (cells2 l)[k * 2 + 1]? = some (.int .i64 p.2) := by
  induction l generalizing k with
  | nil => simp at h
  | cons q l ih =>
    have e : cells2 (q :: l) = .int .i64 q.1 :: .int .i64 q.2 :: cells2 l := by simp [cells2]
    rw [e]
    cases k with
    | zero => simp at h; subst h; simp
    | succ k =>
      have := ih k (by simpa using h)
      have e1 : (k + 1) * 2 = k * 2 + 1 + 1 := by omega
      rw [e1]
      simpa using this
theorem own_ne {w : World} {B sz : Nat} {e T : TypeId} {v : Value} {n : Nat} {xs : List Value} {b : Nat} {cs : Array Value} {fr : Nat × Nat} (hown : w.ownsRow B e sz v n xs) (hb : w.heap[b]? = some (.cells cs T fr)) (hTe : T ≠ e) : v.ownBlock ≠ some b := by
  intro he
  rcases hown.2 with ⟨rfl, _⟩ | ⟨g, cap, cur, rfl, _, hg, _⟩
  · cases he
  · simp only [Value.ownBlock, Option.some.injEq] at he
    subst he
    rw [hb] at hg
    cases hg
    exact hTe rfl
theorem own_kept {w w' : World} {B sz : Nat} {e : TypeId} {v : Value} {n : Nat} {xs : List Value} (h : w.ownsRow B e sz v n xs) (hb : ∀ k, v.ownBlock = some k → w'.heap[k]? = w.heap[k]?) : w'.ownsRow B e sz v n xs := by
  refine ⟨h.1, h.2.imp id ?_⟩
  rintro ⟨g, cap, cur, rfl, h1, h2, h3⟩
  exact ⟨g, cap, cur, rfl, h1, (hb g rfl).trans h2, h3⟩
theorem own_below {w w' : World} {B sz : Nat} {e : TypeId} {v : Value} {n : Nat} {xs : List Value} (h : w.ownsRow B e sz v n xs) (hb : Below w.heap.size w w') : w'.ownsRow B e sz v n xs := own_kept h fun k hk => hb.block k (h.lt k hk).2
theorem own_left {W w w' : World} {g : Nat} {a : Option Addr} {len cap : Nat} {zs : List Int} {B sz : Nat} {e : TypeId} {v : Value} {n : Nat} {xs : List Value} (h : w.ownsRow B e sz v n xs) (hd : Di W w g a len cap zs) (he : 53 ≠ e) (l : Dice.Left W w w' g a len cap zs) : w'.ownsRow B e sz v n xs := by
  obtain ⟨p, _, hb⟩ := hd.blk
  have hne := own_ne h hb he
  exact own_kept h fun k hk => l.far.block k (h.lt k hk).2 (fun e => by rw [e] at hk; exact hne hk)
theorem own_mono {w : World} {B B' sz : Nat} {e : TypeId} {v : Value} {n : Nat} {xs : List Value} (h : w.ownsRow B e sz v n xs) (hB : B' ≤ B) : w.ownsRow B' e sz v n xs :=
  ⟨h.1, h.2.imp id fun ⟨g, cap, cur, h1, h2, h3⟩ => ⟨g, cap, cur, h1, by omega, h3⟩⟩
/-- The shape of what owns a row. -/
theorem own_shape {w : World} {B sz : Nat} {e : TypeId} {v : Value} {n : Nat} {xs : List Value} (h : w.ownsRow B e sz v n xs) :
    (v = .slice none 0 0 ∧ n = 0) ∨ ∃ g c, v = .slice (some ⟨g, 0, none⟩) n c ∧ n ≤ c ∧ g < w.heap.size := by
  rcases h.2 with h | ⟨g, cap, cur, rfl, h1, h2, h3, _⟩
  · exact .inl h
  · exact .inr ⟨g, cap, rfl, h3, (Array.getElem?_eq_some_iff.1 h2).1⟩
theorem Geo_new (w : World) (o : Obj) : (w.alloc o).heap[w.heap.size]? = some o := heap_alloc_new w o
def hasB (l : List (Int × Int)) (x : Int) : Bool := l.any fun p => decide (p.1 ≤ x ∧ x < p.2)
def Spans (w : World) (B : Nat) (v : Value) (l : List (Int × Int)) : Prop := w.ownsRow B 56 2 v l.length (cells2 l)
set_option maxHeartbeats 4000000 in
theorem spans_any {W w : World} {g : Nat} {a : Option Addr} {len cap : Nat} {zs : List Int} (h : Di W w g a len cap zs) :
    Calls Try.prog 21 #[.pointer (some ⟨g, 0, none⟩)] w fun e w' => (∃ v l, e = .returned v ∧ Spans w' w.heap.size v l ∧ l.length ≤ 5) ∧ Dice.Left W w w' g a len cap zs := by
  have H := Lib.hid h
  have L0 := Lib.hid (Dice.Left.refl h)
  have hlt := h.lt
  obtain ⟨i0, hi, hz0, hz1, hz2⟩ : ∃ i, Try.prog.info? 56 = some i ∧ i.zero = some (.agg #[.int .i64 0, .int .i64 0]) ∧ i.size = 2 ∧ i.bytes = 16 := ⟨_, rfl, by kernel_rfl, by kernel_rfl, by kernel_rfl⟩
  clear h
  go_enter Try.func21, Try.ntmps21
  go_wp2_with fail
  refine (next_any 6 L0.out.di (by omega) (by omega)).mono ?_
  rintro e w1 ⟨⟨k0, rfl, m0, m1⟩, hl⟩
  obtain ⟨k, rfl⟩ := Int.eq_ofNat_of_zero_le m0
  replace L0 := Lib.hid hl
  clear hl
  go_wp2_with fail
  go_loopw [4, 3] (fun s4 s3 wr => ∃ (m : Nat) (l : List (Int × Int)), s4 = .int .i64 (m : Int) ∧ l.length + m ≤ 5 ∧ Hid (Spans wr w.heap.size s3 l) ∧ Hid (Dice.Left W w wr g a len cap zs)) (fun s4 _ _ => (intOf s4).toNat)
  case atStart => exact ⟨k, [], rfl, by simp; omega, Lib.hid (World.ownsRow_nil _ _ _ _), L0⟩
  case round =>
    clear L0
    obtain ⟨m, l, rfl, hm, O, L⟩ := hrel
    by_cases hlt : 0 < m
    · have hlt' : (0 : Int) < m := by omega
      go_wp2_with fail
      refine (next_any 30 L.out.di (by omega) (by omega)).mono ?_
      rintro e w2 ⟨⟨f, rfl, f0, f1⟩, hl⟩
      replace O := Lib.hid (own_left O.out L.out.di (by decide) hl)
      replace L := Lib.hid (L.out.trans hl)
      clear hl
      go_wp2_with fail
      refine (next_any 8 L.out.di (by omega) (by omega)).mono ?_
      rintro e w3 ⟨⟨v, rfl, v0, v1⟩, hl⟩
      replace O := Lib.hid (own_left O.out L.out.di (by decide) hl)
      replace L := Lib.hid (L.out.trans hl)
      clear hl
      have one : Hid (∀ u ∈ [Value.int .i64 f, .int .i64 (f + v - 1)], u.oneCell' = true) := Lib.hid (by simp; exact ⟨rfl, rfl⟩)
      have hb3 := Lib.hid (Geo_new w3 (.cells #[.int .i64 f, .int .i64 (f + v - 1)] 56))
      have hown := Lib.hid (own_below O.out (new_block (.cells #[.int .i64 f, .int .i64 (f + v - 1)] 56)))
      have LA := Lib.hid (L.out.below (new_block (.cells #[.int .i64 f, .int .i64 (f + v - 1)] 56)))
      have hle : w.heap.size ≤ w3.heap.size := L.out.far.size
      go_wp2_with (at_builtin; refine wpList_append_lies _ rfl (.tmp 14) (.tmp 22) 26 rfl w.heap.size 56 i0 (.agg #[.int .i64 0, .int .i64 0]) 2 16 Try.underlying26 hi hz0 hz1 hz2 rfl (by decide) _ l.length (cells2 l) rfl hown.out ⟨w3.heap.size, 0, none⟩ 1 1 [.int .i64 f, .int .i64 (f + v - 1)] rfl rfl (World.news_of_block hb3.out) one.out (by decide) (by unfold maxLen; omega) (by omega) (by simp; omega) _ rfl ?_; intro gq cq w5 O2 G2 hg2 hl2)
      have O5 : Hid (Spans w5 w.heap.size (.slice (some ⟨gq, 0, none⟩) (l.length + 1) cq) (l ++ [(f, f + v - 1)])) := Lib.hid (by unfold Spans; rw [cells2_snoc]; simpa using O2)
      have L5 := Lib.hid (Dice.Left.past H.out LA.out ⟨G2.os, G2.tape, G2.output, G2.size, fun k hk => G2.block k (by simp; omega) (fun he => by have := (hown.out.lt k he.symm).1; omega)⟩)
      obtain ⟨m1, rfl⟩ : ∃ m1, m = m1 + 1 := ⟨m - 1, by omega⟩
      clear O2 G2 hg2 hl2 hown LA hb3 one
      go_roundw
      case rel => exact ⟨m1, l ++ [(f, f + v - 1)], by go_num, by simp; omega, O5, L5⟩
      case measure => simp [intOf]
    · obtain rfl : m = 0 := by omega
      go_wp2
      go_ret
      exact ⟨⟨_, l, rfl, O.out, by omega⟩, L.out⟩
end Sp
end Go.Proofs.Ytganalieljmkmaa
