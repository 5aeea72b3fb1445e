/- Contracts of package clock at the examples of the chapter. -/
import Derived.Test.YtdcjpjdkamlheaaClock
namespace Go.Proofs.Ytdcjpjdkamlheaa
open Go.RowKit Wi Dice
namespace Clock
theorem six {w : World} {g : Nat} {a b c d e f : Int} {t : TypeId} (h : w.heap[g]? = some (.cells #[.int .i64 a, .int .i64 b, .int .i64 c, .int .i64 d, .int .i64 e, .int .i64 f] t (0, 0))) : An w g 0 a b c ∧ An w g 3 d e f :=
  ⟨⟨cell_of_row w g 0 _ _ _ h, cell_of_row w g 1 _ _ _ h, cell_of_row w g 2 _ _ _ h⟩, cell_of_row w g 3 _ _ _ h, cell_of_row w g 4 _ _ _ h, cell_of_row w g 5 _ _ _ h⟩
theorem An.at0 {w : World} {g : Nat} {t l h : Int} (a : An w g 0 t l h) : w.cell? ⟨g, 0, none⟩ = some (.int .i64 t) ∧ w.cell? ⟨g, 1, none⟩ = some (.int .i64 l) ∧ w.cell? ⟨g, 2, none⟩ = some (.int .i64 h) := a
theorem An.at3 {w : World} {g : Nat} {t l h : Int} (a : An w g 3 t l h) : w.cell? ⟨g, 3, none⟩ = some (.int .i64 t) ∧ w.cell? ⟨g, 4, none⟩ = some (.int .i64 l) ∧ w.cell? ⟨g, 5, none⟩ = some (.int .i64 h) := a
theorem three {w : World} {g : Nat} {a b c : Int} {t : TypeId} (h : w.heap[g]? = some (.cells #[.int .i64 a, .int .i64 b, .int .i64 c] t (0, 0))) : An w g 0 a b c :=
  ⟨cell_of_row w g 0 _ _ _ h, cell_of_row w g 1 _ _ _ h, cell_of_row w g 2 _ _ _ h⟩
theorem An.alloc {w : World} {g j : Nat} {t l h : Int} (a : An w g j t l h) (o : Obj) : An (w.alloc o) g j t l h := a.below (new_block o)
theorem new1 (w : World) (p o : Obj) : ((w.alloc p).alloc o).heap[w.heap.size + 1]? = some o := by
  have e : (w.alloc p).heap.size = w.heap.size + 1 := by simp
  rw [← e]; exact heap_alloc_new _ _
theorem agrees2 (w : World) :
    Calls Try.prog 31 #[.agg #[.int .i64 0, .int .i64 0, .int .i64 0], .agg #[.int .i64 1000, .int .i64 5000, .int .i64 5000], .int .i64 0] w fun e w' => e = .returned (.bool false) ∧ Below w.heap.size w w' := by
  have V := Lib.hid fun (w : World) (o1 o2 : Obj) => valid2 (w.heap.size + 1 + 1) (((w.alloc o1).alloc o2).alloc (.cells #[.int .i64 0, .int .i64 0, .int .i64 0, .int .i64 1000, .int .i64 5000, .int .i64 5000] 56)) (six (t := 56) (by
      have e : ((w.alloc o1).alloc o2).heap.size = w.heap.size + 1 + 1 := by simp
      rw [← e]; exact heap_alloc_new _ _)).1 (six (t := 56) (by
      have e : ((w.alloc o1).alloc o2).heap.size = w.heap.size + 1 + 1 := by simp
      rw [← e]; exact heap_alloc_new _ _)).2
  go_enter Try.func31, Try.ntmps31
  have A := Lib.hid fun (o1 o2 : Obj) => ((three (t := 56) (heap_alloc_new w (.cells #[.int .i64 0, .int .i64 0, .int .i64 0] 56))).alloc o1).alloc o2
  have B := Lib.hid fun (o1 o2 : Obj) => (three (t := 56) (new1 w o1 (.cells #[.int .i64 1000, .int .i64 5000, .int .i64 5000] 56))).alloc o2
  go_wp2_with fail
  refine (V.out _ _ _).mono ?_
  rintro e w1 ⟨rfl, hb⟩
  have A1 := Lib.hid ((A.out _ _).below hb)
  obtain ⟨a0, a1, a2⟩ := A1.out
  have B1 := Lib.hid ((B.out _ _).below hb)
  obtain ⟨b0, b1, b2⟩ := B1.out
  have hB : Hid (Below w.heap.size w w1) := Lib.hid (((((Below.refl _ _).alloc (Nat.le_refl _) _).alloc (by simp) _).alloc (by simp; omega) _).trans (hb.mono (by simp; omega)))
  clear hb A B V
  go_wp2_with fail
  refine (interval_ge 0 0 0 1000 _ (by decide) (by decide) (by decide) (by decide) (by decide) (by decide) (by decide)).mono ?_
  rintro e w2 ⟨rfl, hb⟩
  obtain ⟨c0, c1, c2⟩ := B1.out.below hb
  have hB2 := Lib.hid (Buf.then_ hB.out hb)
  clear hb a0 a1 a2 b0 b1 b2
  go_wp2
  go_ret
  exact ⟨rfl, hB2.out⟩
theorem jumps1 (g : Nat) (w : World) (a : An w g 0 1000 5000 5010) :
    Calls Try.prog 16 #[.slice (some ⟨g, 0, none⟩) 1 1, .int .i64 0] w fun e w' => e = .returned (.tuple #[.slice none 0 0, .int .i64 0]) ∧ Below w.heap.size w w' := by
  have V := Lib.hid (valid1 g w a)
  clear a
  go_enter Try.func16, Try.ntmps16
  go_wp2_with fail
  refine V.out.mono ?_
  rintro e w1 ⟨rfl, hb⟩
  have hB := Lib.hid hb
  clear hb
  go_wp2
  go_loop [6, 7] (fun v i => v = .slice none 0 0 ∧ i = .int .i64 1) (fun _ _ => 0)
  case atStart => exact ⟨rfl, rfl⟩
  case round =>
    obtain ⟨rfl, rfl⟩ := hrel
    go_wp2
    go_ret2
    exact ⟨rfl, hB.out⟩
theorem infoI : (Try.prog.info? 3).map (fun i => (i.zero, i.size, i.bytes)) = some (some (.int .i64 0), 1, 8) := by kernel_rfl
theorem jumps2 (g : Nat) (w : World) (a : An w g 0 0 0 0) (b : An w g 3 1000 5000 5000) :
    Calls Try.prog 16 #[.slice (some ⟨g, 0, none⟩) 2 2, .int .i64 0] w fun e w' => ∃ p c, e = .returned (.tuple #[.slice (some ⟨p, 0, none⟩) 1 c, .int .i64 0]) ∧ 1 ≤ c ∧ w'.cell? ⟨p, 0, none⟩ = some (.int .i64 1) ∧ Below w.heap.size w w' := by
  have V := Lib.hid (valid2 g w a b)
  have A := Lib.hid a
  have B := Lib.hid b
  clear a b
  obtain ⟨i0, hi, hz0, hz1, hz2⟩ := info_parts infoI
  go_enter Try.func16, Try.ntmps16
  go_wp2_with fail
  refine V.out.mono ?_
  rintro e w1 ⟨rfl, hb⟩
  have hB := Lib.hid hb
  have A1 := Lib.hid (A.out.below hb)
  have B1 := Lib.hid (B.out.below hb)
  clear hb
  go_wp2
  go_loopw [6, 7] (fun v i wr => (i = .int .i64 1 ∧ v = .slice none 0 0 ∧ wr = w1) ∨ (i = .int .i64 2 ∧ Buf.Own w.heap.size wr v [.int .i64 1] ∧ Below w.heap.size w wr)) (fun _ i _ => (2 - intOf i).toNat)
  case atStart => exact .inl ⟨rfl, rfl, rfl⟩
  case round =>
    rcases hrel with ⟨rfl, rfl, rfl⟩ | ⟨rfl, hown, hb⟩
    · obtain ⟨a0, a1, a2⟩ := A1.out
      obtain ⟨b0, b1, b2⟩ := B1.out
      go_wp2_with fail
      refine Buf.region_calm wr (by kernel_rfl) (by kernel_rfl) (Below.refl _ _) ?_
      clear a0 a1 a2 b0 b1 b2
      repeat (go_big_quiet_step ((intro hC; first
        | (go_at_call 31; exact Buf.calm hC (agrees2 _))
        | rfl
        | (simp only [((A1.out.below hC).at0).1, ((A1.out.below hC).at0).2.1, ((A1.out.below hC).at0).2.2, Result.andThen_ok]; exact ⟨trivial, rfl⟩)
        | (simp only [((B1.out.below hC).at3).1, ((B1.out.below hC).at3).2.1, ((B1.out.below hC).at3).2.2, Result.andThen_ok]; exact ⟨trivial, rfl⟩))))
      refine wpQuiet_nil ?_
      intro w2 hb2
      have hB2 := Lib.hid (Buf.then_ hB.out hb2)
      have hsz := hB2.out.size
      have hown := Buf.Own.nil w.heap.size w2
      clear hb2
      go_wp2_with (at_builtin; refine Buf.wpList_append_one rfl _ _ 22 rfl 3 _ i0 (.int .i64 0) 8 Try.underlying22 hi hz0 hz1 hz2 rfl rfl hown hB2.out hsz (.int .i64 1) rfl rfl (by decide) (by decide) ?_; intro v' w' hown' hb' _)
      go_roundw
      case rel => exact .inr ⟨rfl, hown', hb'⟩
      case measure => simp [intOf]
    · obtain ⟨p, c, rfl, _, hc, hcell, _⟩ := hown.parts (show 0 < 1 by decide)
      have c0 := Lib.hid (hcell 0 (show 0 < 1 by decide))
      have hB2 := Lib.hid hb
      have hc := Lib.hid hc
      clear hb hown hcell
      go_wp2
      go_ret2
      exact ⟨p, c, rfl, hc.out, c0.out, hB2.out⟩
end Clock
end Go.Proofs.Ytdcjpjdkamlheaa
