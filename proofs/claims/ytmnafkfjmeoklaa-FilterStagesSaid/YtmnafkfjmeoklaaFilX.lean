/- Contract of filter.Stage. -/
import Derived.Test.YtmnafkfjmeoklaaFilU
import Derived.Deep.RegionHeld3
import Derived.Deep.DeepCutAuto
set_option linter.unusedVariables false
namespace Go.Proofs.Ytmnafkfjmeoklaa
open Go.RowKit Wi Dice
namespace Fil
theorem stageOf_no (k n0 n1 n2 d0 d1 d2 : Int) (hk : k = 0 ∨ k = 1) (w : World) :
    Calls Try.prog 11 #[stage k n0 n1 n2 d0 d1 d2 (.slice none 0 0) 0 0] w fun e w' => e = .returned (.tuple #[.agg #[.slice none 0 0, .int .i64 0, .int .i64 0], .int .i64 1]) ∧ Below w.heap.size w w' := by
  have B0 := Lib.hid (heap_alloc_new w (.cells (sc k n0 n1 n2 d0 d1 d2 (.slice none 0 0) 0 0) 29))
  have W0 := Lib.hid (new_block (w := w) (.cells (sc k n0 n1 n2 d0 d1 d2 (.slice none 0 0) 0 0) 29))
  have hz : Hid ((w.alloc (.cells (sc k n0 n1 n2 d0 d1 d2 (.slice none 0 0) 0 0) 29)).heap.size = w.heap.size + 1) := Lib.hid (by simp)
  replace B0 := Lib.hid ((heap_alloc_old (w.alloc (.cells (sc k n0 n1 n2 d0 d1 d2 (.slice none 0 0) 0 0) 29)) (.cells #[.slice none 0 0, .int .i64 0, .int .i64 0] 33) (by rw [hz.out]; omega)).trans B0.out)
  replace W0 := Lib.hid (W0.out.alloc (by rw [hz.out]; omega) (.cells #[.slice none 0 0, .int .i64 0, .int .i64 0] 33))
  have F0 := Lib.hid (heap_alloc_new (w.alloc (.cells (sc k n0 n1 n2 d0 d1 d2 (.slice none 0 0) 0 0) 29)) (.cells #[.slice none 0 0, .int .i64 0, .int .i64 0] 33))
  rw [hz.out] at F0
  clear hz
  unfold sc at W0 B0 F0
  unfold stage sc
  have hk2 : (k != 2) = true := by simp; omega
  go_enter Try.func11, Try.ntmps11
  obtain ⟨⟨c0, _⟩, _⟩ := cells10 B0.out
  obtain ⟨x0, x1, x2⟩ := cells3 F0.out
  have r0 := frozen_of_row _ (w.heap.size + 1) 0 _ _ F0.out
  have r1 := frozen_of_row _ (w.heap.size + 1) 1 _ _ F0.out
  have r2 := frozen_of_row _ (w.heap.size + 1) 2 _ _ F0.out
  go_wp2_with fail
  refine bodyPost_ret (v := .tuple #[.agg #[.slice none 0 0, .int .i64 0, .int .i64 0], .int .i64 1]) (by simp [results, Try.results11, go_sem, x0, x1, x2]) rfl ⟨rfl, W0.out⟩
theorem keep3 {w : World} {b g k : Nat} {x y z v : Value} (hne : b ≠ g) (h : w.cell? ⟨g, k, none⟩ = some v) : (((w.setCell ⟨b, 0, none⟩ x).setCell ⟨b, 1, none⟩ y).setCell ⟨b, 2, none⟩ z).cell? ⟨g, k, none⟩ = some v := by
  rw [World.cell?_setCell_far, World.cell?_setCell_far, World.cell?_setCell_far]
  all_goals first | exact h | exact hne | exact fun e => hne e.symm | simp [hne] | simp [hne.symm]
theorem stageOf_yes {w : World} {B : Nat} {v : Value} {l : List Int} {fac : Int} {s : Nat} (h : w.ownsRow B 3 1 v l.length (ints l)) (ht : Taps l) (h6 : l.length ≤ 6) (f1 : 1 ≤ fac) (f2 : fac ≤ 5) (s4 : s ≤ 4) (r : Bool) (hr : Hid (decide (psum (fn l) l.length ≤ 2 ^ s) = r)) :
    Calls Try.prog 11 #[stage 2 0 0 0 0 0 0 v fac s] w fun e w' => ((r = true ∧ ∃ g c, e = .returned (.tuple #[.agg #[.slice (some ⟨g, 0, none⟩) l.length c, .int .i64 fac, .int .i64 s], .int .i64 0]) ∧ w'.ownsRow w.heap.size 3 1 (.slice (some ⟨g, 0, none⟩) l.length c) l.length (ints l)) ∨
      (r = false ∧ e = .returned (.tuple #[.agg #[.slice none 0 0, .int .i64 0, .int .i64 0], .int .i64 8]))) ∧ Below w.heap.size w w' := by
  have n1 := ht.n1
  have VS := Lib.hid fun w' (hb : Below w.heap.size w w') => validStage_any ((sv_row h).2.below hb) ht h6 f1 f2 s4
  have CL := Lib.hid fun w' (hb : Below w.heap.size w w') => clone_any (row_below h hb) n1 (by omega)
  obtain ⟨gv, cv, rfl, hg1, hg2⟩ := h.form (by omega)
  have B0 := Lib.hid (heap_alloc_new w (.cells (sc 2 0 0 0 0 0 0 (.slice (some ⟨gv, 0, none⟩) l.length cv) fac s) 29))
  have W0 := Lib.hid (new_block (w := w) (.cells (sc 2 0 0 0 0 0 0 (.slice (some ⟨gv, 0, none⟩) l.length cv) fac s) 29))
  have hz : Hid ((w.alloc (.cells (sc 2 0 0 0 0 0 0 (.slice (some ⟨gv, 0, none⟩) l.length cv) fac s) 29)).heap.size = w.heap.size + 1) := Lib.hid (by simp)
  replace B0 := Lib.hid ((heap_alloc_old (w.alloc (.cells (sc 2 0 0 0 0 0 0 (.slice (some ⟨gv, 0, none⟩) l.length cv) fac s) 29)) (.cells #[.slice none 0 0, .int .i64 0, .int .i64 0] 33) (by rw [hz.out]; omega)).trans B0.out)
  replace W0 := Lib.hid (W0.out.alloc (by rw [hz.out]; omega) (.cells #[.slice none 0 0, .int .i64 0, .int .i64 0] 33))
  have F0 := Lib.hid (heap_alloc_new (w.alloc (.cells (sc 2 0 0 0 0 0 0 (.slice (some ⟨gv, 0, none⟩) l.length cv) fac s) 29)) (.cells #[.slice none 0 0, .int .i64 0, .int .i64 0] 33))
  rw [hz.out] at F0
  clear hz
  unfold sc at B0 W0 F0
  unfold stage sc at *
  go_enter Try.func11, Try.ntmps11
  obtain ⟨⟨c0, c1, c2, c3, c4⟩, c5, c6, c7, c8, c9⟩ := cells10 B0.out
  go_wp2_with fail
  refine (VS.out _ W0.out).mono ?_
  rintro e w1 ⟨rfl, hb⟩
  replace B0 := Lib.hid ((hb.block _ (Array.getElem?_eq_some_iff.1 B0.out).1).trans B0.out)
  replace F0 := Lib.hid ((hb.block _ (Array.getElem?_eq_some_iff.1 F0.out).1).trans F0.out)
  replace W0 := Lib.hid (Buf.then_ W0.out hb)
  clear hb c0 c1 c2 c3 c4 c5 c6 c7 c8 c9
  obtain ⟨⟨c0, c1, c2, c3, c4⟩, c5, c6, c7, c8, c9⟩ := cells10 B0.out
  obtain ⟨x0, x1, x2⟩ := cells3 F0.out
  go_wp2_with fail
  have CA := Lib.hid fun w' (hb : Below w1.heap.size w1 w') => CL.out w' (Buf.then_ W0.out hb)
  have n7 := World.new_ne w1 _ c7
  go_cut [4] (fun s4 wx => ∃ P g c, s4 = .pointer (some ⟨P, 0, none⟩) ∧ Hid (wx.heap[P]? = some (.cells #[.slice (some ⟨g, 0, none⟩) l.length c, .int .i64 fac, .int .i64 s] 33 (0, 0))) ∧ Hid (wx.ownsRow w.heap.size 3 1 (.slice (some ⟨g, 0, none⟩) l.length c) l.length (ints l)) ∧ Hid (wx.heap[w.heap.size + 1]? = some (.cells #[.slice none 0 0, .int .i64 0, .int .i64 0] 33 (0, 0))) ∧ Hid (Below w.heap.size w wx))
  case first =>
   go_region_held3 (fun w' => w'.cell? ⟨w.heap.size, 7, none⟩ = some (.slice (some ⟨gv, 0, none⟩) l.length cv) ∧ w'.cell? ⟨w.heap.size, 8, none⟩ = some (.int .i64 fac) ∧ w'.cell? ⟨w.heap.size, 9, none⟩ = some (.int .i64 s))
     (first
       | (go_split_ands; ((with_reducible refine ⟨x0', x1', x2'⟩)))
       | (with_reducible refine ⟨keep3 n7 x0', keep3 n7 x1', keep3 n7 x2'⟩)
       | go_keep)
     ((first
       | (go_at_call 26; (with_reducible refine (CA.out _ (Below.refl _ _)).mono ?_); rintro r w13 ⟨⟨g, c, rfl, hlv⟩, hb13⟩; have W13 : Hid (Below w1.heap.size w1 w13) := Lib.hid (Buf.then_ (Below.refl _ _) hb13); obtain ⟨_, _, _, x0', x1', x2'⟩ := cells10 ((W13.out.block w.heap.size (Array.getElem?_eq_some_iff.1 B0.out).1).trans B0.out))
       | (go_at_call 26; (with_reducible refine (CA.out _ (Below.refl _ _).drew).mono ?_); rintro r w13 ⟨⟨g, c, rfl, hlv⟩, hb13⟩; have W13 : Hid (Below w1.heap.size w1 w13) := Lib.hid (Buf.then_ (Below.refl _ _).drew hb13); obtain ⟨_, _, _, x0', x1', x2'⟩ := cells10 ((W13.out.block w.heap.size (Array.getElem?_eq_some_iff.1 B0.out).1).trans B0.out))
       | (go_at_call 26; (with_reducible refine (CA.out _ (new_block _)).mono ?_); rintro r w13 ⟨⟨g, c, rfl, hlv⟩, hb13⟩; have W13 : Hid (Below w1.heap.size w1 w13) := Lib.hid (Buf.then_ (new_block _) hb13); obtain ⟨_, _, _, x0', x1', x2'⟩ := cells10 ((W13.out.block w.heap.size (Array.getElem?_eq_some_iff.1 B0.out).1).trans B0.out); have FB : Hid (w13.heap[w1.heap.size]? = some (.cells #[.slice none 0 0, .int .i64 0, .int .i64 0] 33 (0, 0))) := Lib.hid ((hb13.block w1.heap.size (by simp)).trans (heap_alloc_new w1 _)); obtain ⟨y0, y1, y2⟩ := cells3 FB.out; have z0 := frozen_of_row w13 w1.heap.size 0 _ _ FB.out; have z1 := frozen_of_row w13 w1.heap.size 1 _ _ FB.out; have z2 := frozen_of_row w13 w1.heap.size 2 _ _ FB.out)
       | (go_at_call 26; (with_reducible refine (CA.out _ (new_block _).drew).mono ?_); rintro r w13 ⟨⟨g, c, rfl, hlv⟩, hb13⟩; have W13 : Hid (Below w1.heap.size w1 w13) := Lib.hid (Buf.then_ (new_block _).drew hb13); obtain ⟨_, _, _, x0', x1', x2'⟩ := cells10 ((W13.out.block w.heap.size (Array.getElem?_eq_some_iff.1 B0.out).1).trans B0.out); have FB : Hid (w13.heap[w1.heap.size]? = some (.cells #[.slice none 0 0, .int .i64 0, .int .i64 0] 33 (0, 0))) := Lib.hid ((hb13.block w1.heap.size (by simp)).trans (heap_alloc_new w1 _)); obtain ⟨y0, y1, y2⟩ := cells3 FB.out; have z0 := frozen_of_row w13 w1.heap.size 0 _ _ FB.out; have z1 := frozen_of_row w13 w1.heap.size 1 _ _ FB.out; have z2 := frozen_of_row w13 w1.heap.size 2 _ _ FB.out)
       | (go_at_call 26; (with_reducible refine (CA.out _ ((Below.refl _ _).drew.alloc (Nat.le_refl _) _)).mono ?_); rintro r w13 ⟨⟨g, c, rfl, hlv⟩, hb13⟩; have W13 : Hid (Below w1.heap.size w1 w13) := Lib.hid (Buf.then_ ((Below.refl _ _).drew.alloc (Nat.le_refl _) _) hb13); obtain ⟨_, _, _, x0', x1', x2'⟩ := cells10 ((W13.out.block w.heap.size (Array.getElem?_eq_some_iff.1 B0.out).1).trans B0.out); have FB : Hid (w13.heap[w1.heap.size]? = some (.cells #[.slice none 0 0, .int .i64 0, .int .i64 0] 33 (0, 0))) := Lib.hid ((hb13.block w1.heap.size (by simp)).trans (heap_alloc_new w1 _)); obtain ⟨y0, y1, y2⟩ := cells3 FB.out; have z0 := frozen_of_row w13 w1.heap.size 0 _ _ FB.out; have z1 := frozen_of_row w13 w1.heap.size 1 _ _ FB.out; have z2 := frozen_of_row w13 w1.heap.size 2 _ _ FB.out)))
   all_goals go_wp2_with fail
   all_goals go_meet
   · have gP := Lib.hid (heap_alloc_new w13 (.cells #[.slice (some ⟨g, 0, none⟩) l.length c, .int .i64 fac, .int .i64 s] 33))
     have WC := Buf.then_ W13.out (new_block (.cells #[.slice (some ⟨g, 0, none⟩) l.length c, .int .i64 fac, .int .i64 s] 33))
     have RW := row_below (row_le hlv (B' := w.heap.size) W0.out.size) (new_block (.cells #[.slice (some ⟨g, 0, none⟩) l.length c, .int .i64 fac, .int .i64 s] 33))
     exact ⟨w13.heap.size, g, c, rfl, Lib.hid gP.out, Lib.hid RW, Lib.hid ((WC.block _ (Array.getElem?_eq_some_iff.1 F0.out).1).trans F0.out), Lib.hid (Buf.then_ W0.out WC)⟩
   · have T := Lib.hid (st3 FB.out (.slice (some ⟨g, 0, none⟩) l.length c) (.int .i64 fac) (.int .i64 s))
     have hx := (Array.getElem?_eq_some_iff.1 F0.out).1
     have RW := row_set (row_set (row_set hlv (Lib.ownBlock_ne hlv FB.out (by decide)) 0 (.slice (some ⟨g, 0, none⟩) l.length c)) (Lib.ownBlock_ne hlv FB.out (by decide)) 1 (.int .i64 fac)) (Lib.ownBlock_ne hlv FB.out (by decide)) 2 (.int .i64 s)
     have W1 := (((W13.out).setCell (p := ⟨w1.heap.size, 0, none⟩) (Nat.le_refl _) (.slice (some ⟨g, 0, none⟩) l.length c)).setCell (p := ⟨w1.heap.size, 1, none⟩) (Nat.le_refl _) (.int .i64 fac)).setCell (p := ⟨w1.heap.size, 2, none⟩) (Nat.le_refl _) (.int .i64 s)
     have hle := W0.out.size
     exact ⟨w1.heap.size, g, c, rfl, T, Lib.hid (row_le RW (by simp; omega)), Lib.hid ((W1.block _ hx).trans F0.out), Lib.hid (Buf.then_ W0.out W1)⟩
  case rest =>
    obtain ⟨P, g, c, rfl, gP, RW, F0, W0⟩ := hcut
    clear B0 CL
    obtain ⟨t0, t1, t2⟩ := cells3 gP.out
    go_wp2_with fail
    refine (valid_pos (sv_row RW.out).2 n1 h6 (fun j hj => ht.at j hj) f1 f2 s4 r hr).mono ?_
    rintro e w15 ⟨rfl, hb⟩
    replace gP := Lib.hid ((hb.block _ (Array.getElem?_eq_some_iff.1 gP.out).1).trans gP.out)
    replace F0 := Lib.hid ((hb.block _ (Array.getElem?_eq_some_iff.1 F0.out).1).trans F0.out)
    replace RW := Lib.hid (row_below RW.out hb)
    replace W0 := Lib.hid (Buf.then_ W0.out hb)
    clear hb t0 t1 t2
    obtain ⟨t0, t1, t2⟩ := cells3 gP.out
    obtain ⟨x0, x1, x2⟩ := cells3 F0.out
    have r0 := frozen_of_row w15 (w.heap.size + 1) 0 _ _ F0.out
    have r1 := frozen_of_row w15 (w.heap.size + 1) 1 _ _ F0.out
    have r2 := frozen_of_row w15 (w.heap.size + 1) 2 _ _ F0.out
    cases r
    · have T := Lib.hid (st3 F0.out (.slice none 0 0) (.int .i64 0) (.int .i64 0))
      have W1 := Lib.hid (((W0.out.setCell (p := ⟨w.heap.size + 1, 0, none⟩) (by simp) (.slice none 0 0)).setCell (p := ⟨w.heap.size + 1, 1, none⟩) (by simp) (.int .i64 0)).setCell (p := ⟨w.heap.size + 1, 2, none⟩) (by simp) (.int .i64 0))
      obtain ⟨e0, e1, e2⟩ := cells3 T.out
      go_wp2_with fail
      refine bodyPost_ret (v := .tuple #[.agg #[.slice none 0 0, .int .i64 0, .int .i64 0], .int .i64 8]) (by simp [results, Try.results11, go_sem, e0, e1, e2]) rfl ⟨rfl, W1.out⟩
    · have T := Lib.hid (st3 F0.out (.slice (some ⟨g, 0, none⟩) l.length c) (.int .i64 fac) (.int .i64 s))
      have RX := row_set (row_set (row_set RW.out (Lib.ownBlock_ne RW.out F0.out (by decide)) 0 (.slice (some ⟨g, 0, none⟩) l.length c)) (Lib.ownBlock_ne RW.out F0.out (by decide)) 1 (.int .i64 fac)) (Lib.ownBlock_ne RW.out F0.out (by decide)) 2 (.int .i64 s)
      have W1 := ((W0.out.setCell (p := ⟨w.heap.size + 1, 0, none⟩) (by simp) (.slice (some ⟨g, 0, none⟩) l.length c)).setCell (p := ⟨w.heap.size + 1, 1, none⟩) (by simp) (.int .i64 fac)).setCell (p := ⟨w.heap.size + 1, 2, none⟩) (by simp) (.int .i64 s)
      obtain ⟨e0, e1, e2⟩ := cells3 T.out
      replace RX := Lib.hid RX
      replace W1 := Lib.hid W1
      go_wp2_with fail
      refine bodyPost_ret (v := .tuple #[.agg #[.slice (some ⟨g, 0, none⟩) l.length c, .int .i64 fac, .int .i64 s], .int .i64 0]) (by simp [results, Try.results11, go_sem, e0, e1, e2]) rfl ⟨⟨g, c, rfl, RX.out⟩, W1.out⟩
end Fil
end Go.Proofs.Ytmnafkfjmeoklaa
