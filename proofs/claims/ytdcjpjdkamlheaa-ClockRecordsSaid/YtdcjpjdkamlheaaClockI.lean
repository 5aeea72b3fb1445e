/- Contract of clock.Jumps at any valid anchors. -/
import Derived.Test.YtdcjpjdkamlheaaClockH
set_option linter.unusedVariables false
namespace Go.Proofs.Ytdcjpjdkamlheaa
open Go.RowKit Wi Dice
namespace Clock
theorem ji_snoc (js : List Nat) (k : Nat) : ji (js ++ [k]) = ji js ++ [.int .i64 (k : Int)] := by simp [ji]
theorem ji_len (js : List Nat) : (ji js).length = js.length := by simp [ji]
set_option maxHeartbeats 1000000 in
theorem jumps_any {n : Nat} {T L H : Nat → Int} (ok : Ok n T L H) (x : Int) (x0 : 0 ≤ x) (x1 : x ≤ 500000) (g c : Nat) (w : World) (hn : 1 ≤ n) (a : As w g n T L H) :
    Calls Try.prog 16 #[.slice (some ⟨g, 0, none⟩) n c, .int .i64 x] w fun e w' => (∃ v, e = .returned (.tuple #[v, .int .i64 0]) ∧ Buf.Own w.heap.size w' v (ji (jl x T L H n))) ∧ Below w.heap.size w w' := by
  have V := Lib.hid (valid_any ok x x0 x1 g c w a)
  have n5 := ok.n5
  have O := Lib.hid ok
  have A := Lib.hid a
  clear a ok
  obtain ⟨i0, hi, hz0, hz1, hz2⟩ := info_parts infoI
  go_enter Try.func16, Try.ntmps16
  go_wp2_with fail
  refine V.out.mono ?_
  rintro e w1 ⟨rfl, hb⟩
  have hB := Lib.hid hb
  clear hb V
  go_wp2
  go_loopw [6, 7] (fun v i wr => ∃ k : Nat, 1 ≤ k ∧ k ≤ n ∧ i = .int .i64 k ∧ Hid (Buf.Own w.heap.size wr v (ji (jl x T L H k))) ∧ Hid (Below w.heap.size w wr)) (fun _ i _ => n - (intOf i).toNat)
  case atStart => exact ⟨1, by omega, by omega, rfl, Lib.hid (by rw [jl_one x T L H 1 (by omega)]; exact Buf.Own.nil _ _), hB⟩
  case round =>
    obtain ⟨k, hk1, hk, rfl, hown, hb⟩ := hrel
    by_cases hlt : k < n
    · obtain ⟨j, rfl⟩ : ∃ j, k = j + 1 := ⟨k - 1, by omega⟩
      have G := Lib.hid fun w => agrees_any x (T j) (L j) (H j) (T (j + 1)) (L (j + 1)) (H (j + 1)) w x0 x1 (ok_duo O.out j hlt)
      have J0 := Lib.hid ((A.out.below hb.out).at j (by omega))
      have J1 := Lib.hid ((A.out.below hb.out).at (j + 1) hlt)
      have hjl : Hid (agB x (T j) (L j) (H j) (T (j + 1)) (L (j + 1)) (H (j + 1)) = true → jl x T L H (j + 1 + 1) = jl x T L H (j + 1)) := Lib.hid fun h => jl_yes x T L H (j + 1) hk1 h
      have hjn : Hid (agB x (T j) (L j) (H j) (T (j + 1)) (L (j + 1)) (H (j + 1)) = false → jl x T L H (j + 1 + 1) = jl x T L H (j + 1) ++ [j + 1]) := Lib.hid fun h => jl_no x T L H (j + 1) hk1 h
      obtain ⟨a0, a1, a2⟩ := J0.out
      obtain ⟨b0, b1, b2⟩ := J1.out
      rw [show ((j + 1 : Nat) : Int) = (j : Int) + 1 by omega]
      have e1 : IntKind.i64.wrap ((j : Int) + 1 - 1) = j := by rw [show (j : Int) + 1 - 1 = j by omega]; exact IntWalk.i64_in _ ⟨by omega, by omega⟩
      go_wp2_with fail
      refine Buf.region_calm wr (by kernel_rfl) (by kernel_rfl) (Below.refl _ _) ?_
      clear a0 a1 a2 b0 b1 b2
      repeat (go_big_quiet_step ((intro hC; first
        | (go_at_call 31; exact Buf.calm hC (G.out _))
        | rfl
        | (simp only [((A.out.below (Buf.then_ hb.out hC)).at j (by omega)).1, ((A.out.below (Buf.then_ hb.out hC)).at j (by omega)).2.1, ((A.out.below (Buf.then_ hb.out hC)).at j (by omega)).2.2, Result.andThen_ok]; exact ⟨trivial, rfl⟩)
        | (simp only [((A.out.below (Buf.then_ hb.out hC)).at (j + 1) hlt).1, ((A.out.below (Buf.then_ hb.out hC)).at (j + 1) hlt).2.1, ((A.out.below (Buf.then_ hb.out hC)).at (j + 1) hlt).2.2, Result.andThen_ok]; exact ⟨trivial, rfl⟩))))
      refine wpQuiet_nil ?_
      intro w2 hb2
      replace hb := Lib.hid (Buf.then_ hb.out hb2)
      replace hown := Lib.hid (hown.out.below hb2)
      clear hb2 G J0 J1 e1
      obtain ⟨b, hbb⟩ : ∃ b, agB x (T j) (L j) (H j) (T (j + 1)) (L (j + 1)) (H (j + 1)) = b := ⟨_, rfl⟩
      rw [hbb]
      cases b
      · have hsz := hb.out.size
        have hl0 : (ji (jl x T L H (j + 1))).length ≤ 5 := by rw [ji_len]; have := jl_len x T L H (j + 1); omega
        have hnew := Lib.hid (hjn.out hbb)
        have m1 : Hid ((ji (jl x T L H (j + 1))).length + 1 ≤ maxLen) := Lib.hid (by unfold maxLen; omega)
        have m2 : Hid (((ji (jl x T L H (j + 1))).length + 1) * 8 ≤ 140737488355328) := Lib.hid (by omega)
        clear hbb hjl hjn hl0
        go_wp2_with (at_builtin; refine Buf.wpList_append_one rfl _ _ 22 rfl 3 _ i0 (.int .i64 0) 8 Try.underlying22 hi hz0 hz1 hz2 rfl rfl hown.out hb.out hsz (.int .i64 ((j : Int) + 1)) rfl rfl m1.out m2.out ?_; intro v' w3 hown' hb' _)
        go_roundw
        case rel => exact ⟨j + 2, by omega, by omega, by go_num, Lib.hid (by rw [hnew.out, ji_snoc]; exact hown'), Lib.hid hb'⟩
        case measure => simp [intOf]; omega
      · have hnew := Lib.hid (hjl.out hbb)
        clear hbb hjl hjn
        go_wp2
        go_roundw
        case rel => exact ⟨j + 2, by omega, by omega, by go_num, Lib.hid (by rw [hnew.out]; exact hown.out), hb⟩
        case measure => simp [intOf]; omega
    · obtain rfl : k = n := by omega
      go_wp2
      go_ret2
      exact ⟨⟨_, rfl, hown.out⟩, hb.out⟩
end Clock
end Go.Proofs.Ytdcjpjdkamlheaa
