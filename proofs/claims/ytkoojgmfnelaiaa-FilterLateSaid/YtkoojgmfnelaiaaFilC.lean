/- The filters that the dice make. -/
import Derived.Test.YtkoojgmfnelaiaaFilB
import Derived.Deep.RegionHeld
set_option linter.unusedVariables false
namespace Go.Proofs.Ytkoojgmfnelaiaa
open Go.RowKit Wi Dice
namespace Fil
/-- The memory while a filter is made. -/
structure FM (W w : World) (g b : Nat) (a : Option Addr) (len cap : Nat) (zs : List Int) (wr : World) (v : Value) (fac s : Int) (l : List Int) : Prop where
  h : Di W w g a len cap zs
  L : Dice.Left W w wr g a len cap zs
  bw : w.heap.size < b
  box : wr.heap[w.heap.size]? = some (.cells #[.slice none 0 0, .int .i64 0, .int .i64 0] 33 (0, 0))
  blk : wr.heap[b]? = some (.cells #[v, .int .i64 fac, .int .i64 s] 33 (0, 0))
  own : Buf.Own (b + 1) wr v (ints l)
theorem FM.left {W w wr w' : World} {g b : Nat} {a : Option Addr} {len cap : Nat} {zs : List Int} {v : Value} {fac s : Int} {l : List Int} (M : FM W w g b a len cap zs wr v fac s l) (hl : Dice.Left W wr w' g a len cap zs) : FM W w g b a len cap zs w' v fac s l :=
  ⟨M.h, M.L.trans hl, M.bw, (hl.far.block _ (Array.getElem?_eq_some_iff.1 M.box).1 (by have := M.h.lt; simp; omega)).trans M.box, (hl.far.block _ (Array.getElem?_eq_some_iff.1 M.blk).1 (by have := M.h.lt; have := M.bw; simp; omega)).trans M.blk, own_grown M.own hl.far (by have := M.h.lt; have := M.bw; omega)⟩
theorem FM.append {W w wr w' : World} {g b : Nat} {a : Option Addr} {len cap : Nat} {zs : List Int} {v v' : Value} {fac s x : Int} {l : List Int} (M : FM W w g b a len cap zs wr v fac s l) (hb : Below (b + 1) wr w') (ho : Buf.Own (b + 1) w' v' (ints l ++ [.int .i64 x])) :
    FM W w g b a len cap zs (w'.setCell ⟨b, 0, none⟩ v') v' fac s (l ++ [x]) := by
  have hbw := M.bw
  have h1 : w'.heap[b]? = some (.cells #[v, .int .i64 fac, .int .i64 s] 33 (0, 0)) := (hb.block b (by omega)).trans M.blk
  refine ⟨M.h, Dice.Left.past M.h M.L ((hb.mono (by omega)).setCell (by show w.heap.size ≤ b; omega) _), hbw, ?_, ?_, ?_⟩
  · rw [Below.heap_setCell w' _ _ w.heap.size (fun e => by simp at e; omega)]; exact (hb.block _ (by omega)).trans M.box
  · exact (heap_setCell_same w' b 0 _ _ v' h1).trans rfl
  · rw [ints_snoc]
    rcases ho with ho | ⟨g', cap', e, hbb⟩
    · exact .inl ho
    · exact .inr ⟨g', cap', e, hbb.of_block (Below.heap_setCell w' _ _ g' (fun e => by have := hbb.base; simp at e; omega)) (by simp [World.setCell])⟩
theorem st3 {w : World} {g : Nat} {x y z : Value} {t : TypeId} (h : w.heap[g]? = some (.cells #[x, y, z] t (0, 0))) (u v s : Value) :
    (((w.setCell ⟨g, 0, none⟩ u).setCell ⟨g, 1, none⟩ v).setCell ⟨g, 2, none⟩ s).heap[g]? = some (.cells #[u, v, s] t (0, 0)) := by
  have h1 := (heap_setCell_same w g 0 _ _ u h).trans rfl
  have h2 := (heap_setCell_same _ g 1 _ _ v h1).trans rfl
  exact (heap_setCell_same _ g 2 _ _ s h2).trans rfl
theorem own_set {B b : Nat} {w : World} {v : Value} {xs : List Value} (h : Buf.Own (B + 1) w v xs) (hb : b < B) (k : Nat) (u : Value) : Buf.Own (B + 1) (w.setCell ⟨b, k, none⟩ u) v xs := by
  rcases h with h | ⟨g, cap, e, hbb⟩
  · exact .inl h
  · exact .inr ⟨g, cap, e, hbb.of_block (Below.heap_setCell w _ _ g (fun e => by have := hbb.base; simp at e; omega)) (by simp [World.setCell])⟩
set_option maxHeartbeats 4000000 in
set_option maxRecDepth 100000 in
theorem filter_any {W w : World} {d : Nat} {a : Option Addr} {len cap : Nat} {zs : List Int} (h : Di W w d a len cap zs) :
    Calls Try.prog 16 #[.pointer (some ⟨d, 0, none⟩)] w fun e w' => Made w.heap.size w' e ∧ Dice.Left W w w' d a len cap zs := by
  obtain ⟨i0, hi, hz0, hz1, hz2⟩ := info_parts infoI
  have HD := Lib.hid h
  have hlt := h.lt
  have X0 := Lib.hid (heap_alloc_new w (.cells #[.slice none 0 0, .int .i64 0, .int .i64 0] 33))
  have L0 := Lib.hid ((Dice.Left.refl h).below (new_block (.cells #[.slice none 0 0, .int .i64 0, .int .i64 0] 33)))
  clear h
  go_enter Try.func16, Try.ntmps16
  have hsz : (w.alloc (.cells #[.slice none 0 0, .int .i64 0, .int .i64 0] 33)).heap.size = w.heap.size + 1 := by simp
  replace hsz := Lib.hid hsz
  go_wp2_with fail
  generalize hw1 : w.alloc (.cells #[.slice none 0 0, .int .i64 0, .int .i64 0] 33) = w1 at *
  replace hw1 := Lib.hid hw1
  have e1 := hsz.out
  have I1 := Lib.hid (ints_alloc w1 [1, 1, 2, 3] 3)
  rw [← e1]
  refine (pick_any w1.heap.size [1, 1, 2, 3] 4 4 (L0.out.di.below (new_block _)) (by simpa using I1.out) rfl (by omega) (by omega) (by omega) (by simp)).mono ?_
  rintro e w2 ⟨⟨fac, rfl, hf⟩, hl⟩
  have f1 : 1 ≤ fac := by simp at hf; omega
  have f2 : fac ≤ 3 := by simp at hf; omega
  replace X0 := Lib.hid ((hl.far.block w.heap.size (by simp; omega) (by simp; omega)).trans ((heap_alloc_old w1 _ (by omega)).trans X0.out))
  replace L0 := Lib.hid ((L0.out.below (new_block _)).trans hl)
  have hs2 : w.heap.size < w2.heap.size := (Array.getElem?_eq_some_iff.1 X0.out).1
  clear hl I1 hf
  go_wp2_with fail
  have I2 := Lib.hid (ints_alloc w2 [0, 2, 4, 6] 3)
  refine (pick_any w2.heap.size [0, 2, 4, 6] 4 4 (L0.out.di.below (new_block _)) (by simpa using I2.out) rfl (by omega) (by omega) (by omega) (by simp)).mono ?_
  rintro e w3 ⟨⟨sh, rfl, hsh⟩, hl⟩
  obtain ⟨s, rfl, s6⟩ : ∃ s : Nat, sh = (s : Int) ∧ s ≤ 6 := by
    simp at hsh
    exact ⟨sh.toNat, by omega, by omega⟩
  replace X0 := Lib.hid ((hl.far.block w.heap.size (by simp; omega) (by simp; omega)).trans ((heap_alloc_old w2 _ (by omega)).trans X0.out))
  replace L0 := Lib.hid ((L0.out.below (new_block _)).trans hl)
  have hs3 : w.heap.size < w3.heap.size := (Array.getElem?_eq_some_iff.1 X0.out).1
  clear hl I2 hsh hs2
  have M0 : Hid (FM W w d w3.heap.size a len cap zs (w3.alloc (.cells #[.slice none 0 0, .int .i64 fac, .int .i64 s] 33)) (.slice none 0 0) fac s []) := Lib.hid
    ⟨HD.out, L0.out.below (new_block _), hs3, (heap_alloc_old w3 _ hs3).trans X0.out, heap_alloc_new _ _, Buf.Own.nil _ _⟩
  obtain ⟨m0, m1, m2⟩ := cells3 M0.out.blk
  obtain ⟨p1, p2⟩ := pow_bd30 s (by omega)
  have p7 : (2 : Int) ^ s ≤ 64 := by
    have h1 : (2 : Nat) ^ s ≤ 2 ^ 6 := Nat.pow_le_pow_right (by decide) s6
    have e : ((2 ^ s : Nat) : Int) = (2 : Int) ^ s := by rw [Int.natCast_pow]; rfl
    have e6 : (2 : Nat) ^ 6 = 64 := by decide
    omega
  clear X0 L0
  go_wp2_with fail
  generalize w3.alloc (.cells #[.slice none 0 0, .int .i64 fac, .int .i64 s] 33) = w4 at *
  refine (next_any 5 M0.out.L.di (by omega) (by omega)).mono ?_
  rintro e w5 ⟨⟨i, rfl, i1, i2⟩, hl⟩
  replace M0 := Lib.hid (M0.out.left hl)
  clear hl m0 m1 m2
  go_wp2_with fail
  generalize hq : (2 : Int) ^ s = q at *
  replace hq := Lib.hid hq
  go_loopw [4, 5] (fun u i wr => ∃ (k left : Int) (l : List Int) (v : Value), 0 ≤ k ∧ (l.length : Int) + k ≤ 5 ∧ (1 ≤ l.length ∨ 1 ≤ k) ∧ u = .int .i64 left ∧ i = .int .i64 k ∧ 0 ≤ left ∧ left ≤ 64 ∧ Hid (left = q - absum (fn l) l.length) ∧ Hid (FM W w d w3.heap.size a len cap zs wr v fac s l)) (fun _ i _ => (intOf i).toNat)
  case atStart => exact ⟨1 + i, q, [], _, by omega, by simp; omega, .inr (by omega), rfl, rfl, by omega, by omega, Lib.hid (by simp [absum]), M0⟩
  case round =>
    clear M0
    obtain ⟨k, left, l, v, k0, k1, k2, rfl, rfl, l0, l9, hleft, M⟩ := hrel
    by_cases hk : 0 < k
    · go_wp2_with fail
      refine (next_any (2 * left + 1) M.out.L.di (by omega) (by omega)).mono ?_
      rintro e w6 ⟨⟨y, rfl, y0, y1⟩, hl⟩
      replace M := Lib.hid (M.out.left hl)
      clear hl
      obtain ⟨m0, m1, m2⟩ := cells3 M.out.blk
      have fz := frozen_of_row w6 w3.heap.size 0 _ _ M.out.blk
      have ho := Lib.hid M.out.own
      have hsz6 := (Array.getElem?_eq_some_iff.1 M.out.blk).1
      have hB6 : Hid (Below (w3.heap.size + 1) w6 w6) := Lib.hid (Below.refl _ _)
      have hz : 0 ≤ max (y - left) (-(y - left)) ∧ max (y - left) (-(y - left)) ≤ left := by omega
      have hlen5 : l.length ≤ 5 := by omega
      have hlen9 : Hid ((ints l ++ [Value.int .i64 (y - left)]).length = l.length + 1) := Lib.hid (by simp [ints_len])
      have l1 : Hid ((ints l).length + 1 ≤ maxLen) := Lib.hid (by rw [ints_len]; unfold maxLen; omega)
      have l2 : Hid (((ints l).length + 1) * 8 ≤ 140737488355328) := Lib.hid (by rw [ints_len]; omega)
      go_wp2_with (at_builtin; refine Buf.wpList_append_one rfl _ _ 22 rfl 3 _ i0 (.int .i64 0) 8 Try.underlying22 hi hz0 hz1 hz2 rfl rfl ho.out hB6.out (by omega) (.int .i64 (y - left)) rfl rfl l1.out l2.out ?_; intro v' w7 hown' hb' _; obtain ⟨g9, c9, hv9, _⟩ := hown'.parts (by simp); rw [hlen9.out] at hv9; subst hv9; have T := Lib.hid ((hb'.block w3.heap.size (by omega)).trans M.out.blk); have q0 := (cells3 T.out).1; have q1 := frozen_of_row w7 w3.heap.size 0 _ _ T.out)
      have MA := Lib.hid (M.out.append hb' hown')
      have hl' := Lib.hid (absum_snoc l (y - left))
      clear hown' hb' M m0 m1 m2 T q0 q1 ho fz
      go_roundw
      case rel => exact ⟨k - 1, left - max (y - left) (-(y - left)), l ++ [y - left], _, by omega, by simp; omega, .inl (by simp), rfl, rfl, by omega, by omega, Lib.hid (by rw [List.length_append, List.length_singleton, hl'.out]; have := hleft.out; omega), MA⟩
      case measure => simp [intOf]; omega
    · obtain ⟨m0, m1, m2⟩ := cells3 M.out.blk
      obtain ⟨b0, b1, b2⟩ := cells3 M.out.box
      have r0 := frozen_of_row wr w.heap.size 0 _ _ M.out.box
      have r1 := frozen_of_row wr w.heap.size 1 _ _ M.out.box
      have r2 := frozen_of_row wr w.heap.size 2 _ _ M.out.box
      have ho := M.out.own
      obtain ⟨va, vc, rfl⟩ := own_len ho
      rw [ints_len] at *
      clear ho
      go_wp2_with fail
      have Y := Lib.hid (st3 M.out.box (.slice va l.length vc) (.int .i64 fac) (.int .i64 s))
      have Z := Lib.hid ((((Below.refl w.heap.size wr).setCell (p := ⟨w.heap.size, 0, none⟩) (Nat.le_refl _) (.slice va l.length vc)).setCell (p := ⟨w.heap.size, 1, none⟩) (Nat.le_refl _) (.int .i64 fac)).setCell (p := ⟨w.heap.size, 2, none⟩) (Nat.le_refl _) (.int .i64 s))
      have hne : w3.heap.size + 1 ≤ w3.heap.size + 1 := Nat.le_refl _
      refine bodyPost_ret (results_cell_row rfl _ _ w.heap.size _ _ _ _ rfl Y.out rfl (by rfl) rfl) rfl ⟨⟨_, l, fac, s, rfl, ?_, ⟨by omega, by omega, by omega, f1, by omega, ?_⟩, by omega, f2, s6⟩, Dice.Left.past M.out.h M.out.L Z.out⟩
      · have := own_set (own_set (own_set M.out.own M.out.bw 0 (.slice va l.length vc)) M.out.bw 1 (.int .i64 fac)) M.out.bw 2 (.int .i64 s)
        exact this.mono (by omega)
      · have := hleft.out; rw [hq.out]; omega
theorem own_far {B b : Nat} {w : World} {v : Value} {xs : List Value} (h : Buf.Own B w v xs) (hb : b < B) (k : Nat) (u : Value) : Buf.Own B (w.setCell ⟨b, k, none⟩ u) v xs := by
  rcases h with h | ⟨g, cap, e, hbb⟩
  · exact .inl h
  · exact .inr ⟨g, cap, e, hbb.of_block (Below.heap_setCell w _ _ g (fun e => by have := hbb.base; simp at e; omega)) (by simp [World.setCell])⟩
theorem SV.at {w : World} {a : Option Addr} {n c : Nat} {X : Nat → Int} (h : SV w (.slice a n c) n X) (k : Nat) (hk : k < n) : ∃ b off, a = some ⟨b, off, none⟩ ∧ w.cell? ⟨b, off + k, none⟩ = some (.int .i64 (X k)) := by
  obtain ⟨a', c', e, _, _, h3⟩ := h
  injection e with e1 e2 e3
  subst e1 e3
  obtain ⟨b, off, e, _, hc⟩ := h3 (by omega)
  exact ⟨b, off, e, hc k hk⟩
end Fil
end Go.Proofs.Ytkoojgmfnelaiaa
