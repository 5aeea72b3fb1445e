/- Contracts of package clock at any valid anchors: the interval, Agrees, Jumps, the run of a tag. -/
import Derived.Test.YtdcjpjdkamlheaaClockG
set_option linter.unusedVariables false
namespace Go.Proofs.Ytdcjpjdkamlheaa
open Go.RowKit Wi Dice
namespace Clock
theorem interval_any (x t l h tag : Int) (w : World) (x0 : 0 ≤ x) (x1 : x ≤ 500000) (t0 : 0 ≤ t) (t1 : t ≤ 200000) (g0 : 0 ≤ tag) (g1 : tag ≤ 200000) (l0 : 900000000000 ≤ l) (lh : l ≤ h) (h1 : h ≤ 1200000000000) :
    Calls Try.prog 40 #[.agg #[.int .i64 t, .int .i64 l, .int .i64 h], .int .i64 x, .int .i64 tag] w fun e w' => e = .returned (.tuple #[.int .i64 (ivL x t l tag), .int .i64 (ivH x t h tag)]) ∧ Below w.heap.size w w' := by
  by_cases hc : t ≤ tag
  · have E := Lib.hid fun w => elapsed_any x (tag - t) w x0 x1 (by omega) (by omega)
    obtain ⟨p0, p1⟩ := lo_bd x (tag - t) x0 (by omega)
    obtain ⟨q0, q1⟩ := hi_bd x (tag - t) x0 x1 (by omega)
    have e1 : Hid (ivL x t l tag = l + loE x (tag - t)) := Lib.hid (by unfold ivL; rw [if_pos hc])
    have e2 : Hid (ivH x t h tag = h + hiE x (tag - t)) := Lib.hid (by unfold ivH; rw [if_pos hc])
    rw [e1.out, e2.out]
    clear e1 e2
    generalize loE x (tag - t) = p at *
    generalize hiE x (tag - t) = q at *
    go_enter Try.func40, Try.ntmps40
    go_wp2_with (go_at_call 43; with_reducible refine (E.out _).mono ?_; rintro e w' ⟨rfl, m, rfl⟩)
    go_quiet (fail)
    go_wp2
    go_ret2
    exact ⟨rfl, Buf.below_drewN (Buf.below_drewN ((Below.refl _ _).alloc (Nat.le_refl _) _) _) _⟩
  · have E := Lib.hid fun w => elapsed_any x (t - tag) w x0 x1 (by omega) (by omega)
    obtain ⟨p0, p1⟩ := lo_bd x (t - tag) x0 (by omega)
    obtain ⟨q0, q1⟩ := hi_bd x (t - tag) x0 x1 (by omega)
    have e1 : Hid (ivL x t l tag = l - hiE x (t - tag)) := Lib.hid (by unfold ivL; rw [if_neg hc])
    have e2 : Hid (ivH x t h tag = h - loE x (t - tag)) := Lib.hid (by unfold ivH; rw [if_neg hc])
    rw [e1.out, e2.out]
    clear e1 e2
    generalize loE x (t - tag) = p at *
    generalize hiE x (t - tag) = q at *
    go_enter Try.func40, Try.ntmps40
    go_wp2_with (go_at_call 43; with_reducible refine (E.out _).mono ?_; rintro e w' ⟨rfl, m, rfl⟩)
    go_quiet (fail)
    go_wp2
    go_ret2
    exact ⟨rfl, Buf.below_drewN (Buf.below_drewN ((Below.refl _ _).alloc (Nat.le_refl _) _) _) _⟩
/-- Two valid anchors, one behind the other. -/
structure Duo (t l h t' l' h' : Int) : Prop where
  t0 : 0 ≤ t
  tt : t < t'
  t1 : t' ≤ 200000
  l0 : 900000000000 ≤ l
  lh : l ≤ h
  h1 : h ≤ 1100000000000
  m0 : 900000000000 ≤ l'
  mh : l' ≤ h'
  m1 : h' ≤ 1100000000000
theorem Duo.ok {t l h t' l' h' : Int} (d : Duo t l h t' l' h') : Ok 2 (fun k => if k = 0 then t else t') (fun k => if k = 0 then l else l') (fun k => if k = 0 then h else h') := by
  obtain ⟨a1, a2, a3, a4, a5, a6, a7, a8, a9⟩ := d
  refine ⟨by omega, fun k hk => ?_, fun k hk => ?_, fun k hk => ?_, fun k hk => ?_, fun k hk => ?_, fun k hk => ?_⟩ <;> (rcases (show k = 0 ∨ k = 1 by omega) with rfl | rfl) <;> simp <;> omega
theorem Duo.as {w : World} {g : Nat} {t l h t' l' h' : Int} {ty : TypeId} (e : w.heap[g]? = some (.cells #[.int .i64 t, .int .i64 l, .int .i64 h, .int .i64 t', .int .i64 l', .int .i64 h'] ty (0, 0))) :
    As w g 2 (fun k => if k = 0 then t else t') (fun k => if k = 0 then l else l') (fun k => if k = 0 then h else h') := by
  intro k hk
  rcases (show k = 0 ∨ k = 1 by omega) with rfl | rfl
  · exact (six e).1
  · exact (six e).2
theorem agrees_any (x t l h t' l' h' : Int) (w : World) (x0 : 0 ≤ x) (x1 : x ≤ 500000) (d : Duo t l h t' l' h') :
    Calls Try.prog 31 #[.agg #[.int .i64 t, .int .i64 l, .int .i64 h], .agg #[.int .i64 t', .int .i64 l', .int .i64 h'], .int .i64 x] w fun e w' => e = .returned (.bool (agB x t l h t' l' h')) ∧ Below w.heap.size w w' := by
  have V := Lib.hid fun (w : World) (o1 o2 : Obj) => valid_any d.ok x x0 x1 (w.heap.size + 1 + 1) 2 (((w.alloc o1).alloc o2).alloc (.cells #[.int .i64 t, .int .i64 l, .int .i64 h, .int .i64 t', .int .i64 l', .int .i64 h'] 56)) (Duo.as (ty := 56) (by
      have e : ((w.alloc o1).alloc o2).heap.size = w.heap.size + 1 + 1 := by simp
      rw [← e]; exact heap_alloc_new _ _))
  have I := Lib.hid fun w => interval_any x t l h t' w x0 x1 d.t0 (by have := d.tt; have := d.t1; omega) (by have := d.t0; have := d.tt; omega) d.t1 d.l0 d.lh (by have := d.h1; omega)
  have AB : Hid (agB x t l h t' l' h' = (decide (ivL x t l t' ≤ h') && decide (l' ≤ ivH x t h t'))) := Lib.hid rfl
  clear d
  generalize ivL x t l t' = p at *
  generalize ivH x t h t' = q at *
  rw [AB.out]
  clear AB
  go_enter Try.func31, Try.ntmps31
  have A := Lib.hid fun (o1 o2 : Obj) => ((three (t := 56) (heap_alloc_new w (.cells #[.int .i64 t, .int .i64 l, .int .i64 h] 56))).alloc o1).alloc o2
  have B := Lib.hid fun (o1 o2 : Obj) => (three (t := 56) (new1 w o1 (.cells #[.int .i64 t', .int .i64 l', .int .i64 h'] 56))).alloc o2
  go_wp2_with fail
  refine (V.out _ _ _).mono ?_
  rintro e w1 ⟨rfl, hb⟩
  have A1 := Lib.hid ((A.out _ _).below hb)
  obtain ⟨a0, a1, a2⟩ := A1.out
  have B1 := Lib.hid ((B.out _ _).below hb)
  obtain ⟨b0, b1, b2⟩ := B1.out
  have hB : Hid (Below w.heap.size w w1) := Lib.hid (((((Below.refl _ _).alloc (Nat.le_refl _) _).alloc (by simp) _).alloc (by simp; omega) _).trans (hb.mono (by simp; omega)))
  clear hb A B V
  go_wp2_with fail
  refine (I.out _).mono ?_
  rintro e w2 ⟨rfl, hb⟩
  obtain ⟨c0, c1, c2⟩ := B1.out.below hb
  have hB2 := Lib.hid (Buf.then_ hB.out hb)
  clear hb a0 a1 a2 b0 b1 b2 I
  by_cases p1 : p ≤ h'
  · have d1 : decide (p ≤ h') = true := by simpa using p1
    go_wp2
    go_ret
    exact ⟨by rw [d1]; rfl, hB2.out⟩
  · have d1 : decide (p ≤ h') = false := by simpa using p1
    go_wp2
    go_ret
    exact ⟨by rw [d1]; rfl, hB2.out⟩
theorem ok_duo {n : Nat} {T L H : Nat → Int} (ok : Ok n T L H) (j : Nat) (hj : j + 1 < n) : Duo (T j) (L j) (H j) (T (j + 1)) (L (j + 1)) (H (j + 1)) :=
  ⟨ok.t0 j (by omega), ok.up j hj, ok.t1 _ hj, ok.l0 j (by omega), ok.lh j (by omega), ok.h1 j (by omega), ok.l0 _ hj, ok.lh _ hj, ok.h1 _ hj⟩
def ji (js : List Nat) : List Value := js.map fun (j : Nat) => Value.int .i64 (j : Int)
end Clock
end Go.Proofs.Ytdcjpjdkamlheaa
