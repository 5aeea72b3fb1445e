/- The walk of CrcParts. -/
import Derived.Test.YtmkcheiidhppbabCrcApp
namespace Go.Proofs.Ytmkcheiidhppbab
open Go.RowKit Crc
namespace Laws
set_option maxHeartbeats 400000 in
set_option maxRecDepth 100000 in
theorem crcParts_walk (a0 a1 a2 : ByteArray) (w0 : a0.size ≤ 140737488351232) (w1 : a1.size ≤ 140737488351232) (w2 : a2.size ≤ 140737488351232) (w : World) :
    Calls Try.prog 7 #[.string a0, .string a1, .string a2] w fun e w' => e = .returned (.bool true) ∧ Below w.heap.size w w' := by
  by_cases hl : 400 < a0.size + a1.size + a2.size
  · go_enter Try.func7, Try.ntmps7
    go_wp2_with (go_at_call 16; refine (sane_any _).mono ?_; rintro e w1 ⟨rfl, hb⟩)
    go_ret
    exact ⟨rfl, hb⟩
  · obtain ⟨u, hu⟩ : ∃ u, u = Cm.updOf 0 a0.data.toList := ⟨_, rfl⟩
    obtain ⟨v, hv⟩ : ∃ v, v = Cm.updOf u a1.data.toList := ⟨_, rfl⟩
    obtain ⟨n, hn⟩ : ∃ n, n = Cm.updOf v a2.data.toList := ⟨_, rfl⟩
    have bu : u < 4294967296 := by rw [hu]; exact Cm.updOf_lt (by decide) _
    have bv : v < 4294967296 := by rw [hv]; exact Cm.updOf_lt bu _
    have bn : n < 4294967296 := by rw [hn]; exact Cm.updOf_lt bv _
    have hn12 : n = Cm.updOf u (a1 ++ a2).data.toList := by
      rw [hn, hv, Cm.updOf_append]; simp
    have hn012 : n = Cm.updOf 0 (a0 ++ a1 ++ a2).data.toList := by
      rw [hn12, hu, Cm.updOf_append]; simp
    have s12 : (a1 ++ a2).size = a1.size + a2.size := by simp
    have s012 : (a0 ++ a1 ++ a2).size = a0.size + a1.size + a2.size := by simp
    have S1 : Hid (∀ w, Calls Try.prog 21 #[.string (a0 ++ a1 ++ a2)] w fun e w' => e = .returned (.int .i64 (n : Nat)) ∧ Below w.heap.size w w') := by
      rw [hn012]; exact fun w => sum_any _ w (by omega)
    have S0 : Hid (∀ w, Calls Try.prog 21 #[.string a0] w fun e w' => e = .returned (.int .i64 (u : Nat)) ∧ Below w.heap.size w w') := by
      rw [hu]; exact fun w => sum_any _ w (by omega)
    have U0 : Hid (∀ w, Calls Try.prog 17 #[.int .i64 0, .string a0] w fun e w' => e = .returned (.int .i64 (u : Nat)) ∧ Below w.heap.size w w') := by
      rw [hu]; exact fun w => update_any 0 _ w (by decide) (by omega)
    have U1 : Hid (∀ w, Calls Try.prog 17 #[.int .i64 u, .string a1] w fun e w' => e = .returned (.int .i64 (v : Nat)) ∧ Below w.heap.size w w') := by
      rw [hv]; exact fun w => update_any u _ w bu (by omega)
    have U2 : Hid (∀ w, Calls Try.prog 17 #[.int .i64 v, .string a2] w fun e w' => e = .returned (.int .i64 (n : Nat)) ∧ Below w.heap.size w w') := by
      rw [hn]; exact fun w => update_any v _ w bv (by omega)
    have U3 : Hid (∀ w, Calls Try.prog 17 #[.int .i64 u, .string (a1 ++ a2)] w fun e w' => e = .returned (.int .i64 (n : Nat)) ∧ Below w.heap.size w w') := by
      rw [hn12]; exact fun w => update_any u _ w bu (by omega)
    obtain ⟨N, hN⟩ : ∃ N : Int, N = (n : Int) := ⟨_, rfl⟩
    have n0 : 0 ≤ N := by omega
    have n1 : N ≤ 4294967295 := by omega
    rw [← hN] at S1 U2 U3
    clear hu hv hn hn12 hn012 s12 s012 bu bv bn hN
    go_enter Try.func7, Try.ntmps7
    go_wp2_with (first | (go_at_call 21; (first | (with_reducible refine (S0.out _).mono ?_) | (with_reducible refine (S1.out _).mono ?_)); rintro e w1 ⟨rfl, hb⟩) | (go_at_call 17; (first | (with_reducible refine (U0.out _).mono ?_) | (with_reducible refine (U1.out _).mono ?_) | (with_reducible refine (U2.out _).mono ?_) | (with_reducible refine (U3.out _).mono ?_)); rintro e w1 ⟨rfl, hb⟩) | (go_at_call 16; refine (sane_any _).mono ?_; rintro e w1 ⟨rfl, hb⟩))
    go_ret
    exact ⟨rfl, by repeat (first | exact Below.refl _ _ | assumption | refine Buf.then_ ?_ (by assumption))⟩
end Laws
end Go.Proofs.Ytmkcheiidhppbab
