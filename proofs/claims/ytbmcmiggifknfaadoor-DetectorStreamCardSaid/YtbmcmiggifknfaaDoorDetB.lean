/- Package detector: absolute. -/
import Derived.Test.YtbmcmiggifknfaaDoorDetA
set_option linter.unusedVariables false
set_option linter.unusedSimpArgs false
namespace Go.Proofs.YtbmcmiggifknfaaDoor
open Go.RowKit Wi Dice
namespace Det
/-- Absolute values. -/
def ab (X : Nat → Int) (j : Nat) : Int := max (X j) (-X j)
set_option maxHeartbeats 4000000 in
set_option maxRecDepth 100000 in
theorem absolute_any {w : World} {v : Value} {n : Nat} {X : Nat → Int} (h : SV w v n X) (hn : n ≤ 65536) (hX : ∀ j, j < n → -1073741823 ≤ X j ∧ X j ≤ 1073741823) :
    Calls Tryd.prog 27 #[v] w fun e w' => (∃ r, e = .returned r ∧ SV w' r n (ab X)) ∧ Below w.heap.size w w' := by
  obtain ⟨i0, hi, hz0, hz1, hz2⟩ := info_parts infoI
  obtain ⟨a, c, rfl, h1, h2, h3⟩ := h
  have H3 := Lib.hid h3
  have HX := Lib.hid hX
  clear h3 hX h2
  go_enter Tryd.func27, Tryd.ntmps27
  go_wp2_with (refine wpList_make_ints _ rfl _ _ 22 rfl 3 i0 Tryd.underlying22 hi hz0 hz1 hz2 _ _ n rfl rfl rfl rfl (by omega) ?_; intro w3 hown hb; replace hown := Lib.hid hown; replace hb := Lib.hid hb)
  go_loopw [11] (fun i wr => ∃ (k : Nat) (L : List Int), k ≤ n ∧ i = .int .i64 k ∧ Hid (L.length = n) ∧ Hid (∀ j, j < k → fn L j = ab X j) ∧ Hid (Buf.Own w.heap.size wr (.slice (some ⟨w.heap.size, 0, none⟩) n n) (ints L)) ∧ Hid (Below w.heap.size w wr)) (fun i _ => n - (intOf i).toNat)
  case atStart => exact ⟨0, List.replicate n 0, by omega, rfl, Lib.hid (by simp), Lib.hid (fun j hj => by omega), hown, hb⟩
  case round =>
    clear hown hb
    obtain ⟨k, L, hk, rfl, hL, hF, ho, hb⟩ := hrel
    by_cases hlt : k < n
    · obtain ⟨b, off, rfl, hbl, hc⟩ := H3.out (by omega)
      have c1 : wr.cell? ⟨b, off + k, none⟩ = some (.int .i64 (X k)) := by rw [hb.out.cell (p := ⟨b, off + k, none⟩) hbl]; exact hc k hlt
      obtain ⟨x1, x2⟩ := HX.out k hlt
      obtain ⟨z1, z2, _⟩ := row_read ho.out k (by rw [hL.out]; exact hlt)
      have hkI : (k : Int) < n := by omega
      have HN := Lib.hid (row_store ho.out k (ab X k))
      have HF : Hid (∀ j, j < k + 1 → fn (L.set k (ab X k)) j = ab X j) := Lib.hid fun j hj => by
        rw [fn_set _ _ _ _ (by rw [hL.out]; exact hlt)]
        split
        · next e => rw [e]
        · exact hF.out j (by omega)
      have HL : Hid ((L.set k (ab X k)).length = n) := Lib.hid (by rw [List.length_set]; exact hL.out)
      have HB := Lib.hid (hb.out.setCell (p := ⟨w.heap.size, k, none⟩) (Nat.le_refl _) (.int .i64 (ab X k)))
      have hab : Hid (max (X k) (-X k) = ab X k) := Lib.hid rfl
      have AB : Hid (∀ w', Calls Tryd.prog 36 #[.int .i64 (X k)] w' fun e w'' => e = .returned (.int .i64 (ab X k)) ∧ w'' = w') := Lib.hid fun w' => by rw [← hab.out]; exact abs_any (X k) w' x1 x2
      generalize ab X k = y at *
      generalize X k = x at c1 AB
      generalize L.getD k 0 = z at z1
      clear hc x1 x2 hab
      go_wp2_with (go_at_call 36; with_reducible refine (AB.out _).mono ?_; rintro e w' ⟨rfl, rfl⟩)
      go_roundw
      case rel => exact ⟨k + 1, L.set k y, by omega, by go_num, HL, HF, HN, HB⟩
      case measure => simp [intOf]; omega
    · obtain rfl : k = n := by omega
      go_wp2_with fail
      go_ret
      refine ⟨⟨_, rfl, ?_⟩, hb.out⟩
      obtain ⟨a', c', e, h1', h2', h3'⟩ := sv_own ho.out
      rw [hL.out] at e h1' h3'
      exact ⟨a', c', e, h1', h2', fun h0 => by
        obtain ⟨b', off', e', hb', hc'⟩ := h3' h0
        exact ⟨b', off', e', hb', fun j hj => by rw [← hF.out j hj]; exact hc' j hj⟩⟩
end Det
end Go.Proofs.YtbmcmiggifknfaaDoor
