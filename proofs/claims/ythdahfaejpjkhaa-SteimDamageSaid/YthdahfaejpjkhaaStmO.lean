/- Same; the examples of the chapter. -/
import Derived.Test.YthdahfaejpjkhaaStmN
import Derived.Test.YthdahfaejpjkhaaSmp
set_option linter.unusedVariables false
set_option linter.unusedSimpArgs false
namespace Go.Proofs.Ythdahfaejpjkhaa
open Go.RowKit Dice Ri Rk
namespace St
set_option maxHeartbeats 2000000 in
theorem same_any {w : World} {a a' : Option Addr} {n c c' : Nat} {L : List Int} (h : Ro w a n c L) (h' : Ro w a' n c' L) :
    Calls Try.prog 13 #[.slice a n c, .slice a' n c'] w fun e w' => e = .returned (.bool true) ∧ Below w.heap.size w w' := by
  have hnc := h.nc
  have hnc' := h'.nc
  have hcc := h.cap
  have hl := Lib.hid h.len
  have H := Lib.hid h
  have G := Lib.hid h'
  have enn : ((n : Int) == (n : Int)) = true := by simp
  clear h h'
  go_enter Try.func13, Try.ntmps13
  go_wp2_with fail
  go_loopw [5] (fun i wr => ∃ k : Nat, k ≤ n ∧ i = .int .i64 k ∧ Hid (∃ m, wr = w.drewN m)) (fun i _ => n - (intOf i).toNat)
  case atStart => exact ⟨0, by omega, rfl, Lib.hid ⟨0, rfl⟩⟩
  case round =>
    obtain ⟨k, hk, rfl, hw⟩ := hrel
    obtain ⟨m, rfl⟩ := hw.out
    by_cases hlt : k < n
    · obtain ⟨g, o, rfl⟩ := H.out.form (by omega)
      obtain ⟨g', o', rfl⟩ := G.out.form (by omega)
      have c1 := H.out.cell k hlt
      have c2 := G.out.cell k hlt
      generalize L.getD k 0 = d at *
      have ki : (k : Int) < n := by omega
      have edd : (d == d) = true := by simp
      clear hw
      go_wp2_with fail
      go_quiet (fail)
      go_wp2_with fail
      exact ⟨⟨k + 1, by omega, by go_num, Lib.hid ⟨_, rfl⟩⟩, by simp [intOf]; omega⟩
    · obtain rfl : n = k := by omega
      clear hw
      go_wp2_with fail
      go_ret
      exact ⟨rfl, Buf.below_drewN (Below.refl _ _) _⟩
/-- A literal of ints. -/
theorem ro_new (w : World) (L : List Int) (o : Obj) (t : TypeId) (n : Nat) (hn : n = L.length) (ho : o = .cells (iv L).toArray t) (h : n ≤ 1000) : Ro (w.alloc o) (some ⟨w.heap.size, 0, none⟩) n n L := by
  subst hn ho
  refine ⟨rfl, Nat.le_refl _, by omega, fun h0 => ⟨_, 0, rfl, (by have : (w.alloc (.cells (iv L).toArray t)).heap.size = w.heap.size + 1 := (Array.size_push ..); omega), fun j x hx => ?_⟩⟩
  have hb := heap_alloc_new w (.cells (iv L).toArray t)
  rw [Nat.zero_add]
  refine (cell_of_row _ _ j _ _ _ hb).trans ?_
  simp [iv, hx]
theorem ex_wds : wds (df [5, 6, 4, 4, 4]) = [(1, 130560), (3, 0)] := by decide +kernel
theorem ex_w3 : (wds (df [1, 2, 3])).length = 2 := by decide +kernel
theorem ex_prs : prs ((allw 1 (ew [5, 6, 4, 4, 4])).getD 0 0) 16 = [0, 0, 0, 1, 3, 0, 0, 0, 0, 0, 0, 0, 0, 0, 0, 0] := by decide +kernel
set_option maxHeartbeats 4000000 in
set_option maxRecDepth 100000 in
theorem sane_any (w : World) :
    Calls Try.prog 8 #[] w fun e w' => e = .returned (.bool true) ∧ Below w.heap.size w w' := by
  have R0 := ro_new w [5, 6, 4, 4, 4] (.cells #[.int .i64 5, .int .i64 6, .int .i64 4, .int .i64 4, .int .i64 4] 3) 3 5 rfl rfl (by omega)
  have b0 := Lib.hid (new_block (w := w) (.cells #[.int .i64 5, .int .i64 6, .int .i64 4, .int .i64 4, .int .i64 4] 3))
  have hS : InS [5, 6, 4, 4, 4] := by unfold InS; decide
  have hf : fo (wds (df [5, 6, 4, 4, 4])).length = 1 := by rw [ex_wds]; rfl
  have E := Lib.hid (encode_any R0 (by omega) (by omega) hS (by rw [hf]; omega))
  have hA : A32 (allw 1 (ew [5, 6, 4, 4, 4])) := allw_32 1 _ (ew_ok _)
  have C := Lib.hid fun w' => codes_any (allw 1 (ew [5, 6, 4, 4, 4])) hA (allw_length 1 _) w'
  have he : enc [5, 6, 4, 4, 4] = bys (allw 1 (ew [5, 6, 4, 4, 4])) := by unfold enc; rw [hf]
  rw [he] at E
  rw [ex_prs] at C
  have W3 := Lib.hid fun w' => words_any (ro_new w' [1, 2, 3] (.cells #[.int .i64 1, .int .i64 2, .int .i64 3] 3) 3 3 rfl rfl (by omega)) (by omega) (by unfold InS; decide)
  rw [ex_w3] at W3
  generalize bys (allw 1 (ew [5, 6, 4, 4, 4])) = l at *
  clear R0 hS hf hA he
  go_enter Try.func8, Try.ntmps8
  go_wp2_with fail
  with_reducible refine E.out.mono ?_
  rintro e w1 ⟨rfl, b1⟩
  go_wp2_with fail
  with_reducible refine (C.out _).mono ?_
  rintro e w2 ⟨⟨b, c, rfl, R⟩, b2⟩
  obtain ⟨g, o, rfl⟩ := R.form (by omega)
  have c3 := R.cell 3 (by omega)
  have c4 := R.cell 4 (by omega)
  have c5 := R.cell 5 (by omega)
  simp only [List.getD_cons_succ, List.getD_cons_zero] at c3 c4 c5
  have BW := Lib.hid (Buf.then_ b0.out (Buf.then_ b1 b2))
  have hcc := R.cap
  have hnc := R.nc
  clear b1 b2 E C R b0
  go_wp2_with fail
  refine (W3.out _).mono ?_
  rintro e w4 ⟨rfl, b4⟩
  have b3 := new_block (w := w2) (.cells #[.int .i64 1, .int .i64 2, .int .i64 3] 3)
  clear c3 c4 c5
  go_wp2_with fail
  go_ret
  exact ⟨rfl, Buf.then_ BW.out (Buf.then_ b3 b4)⟩
end St
end Go.Proofs.Ythdahfaejpjkhaa
