/- Contracts of the reference of layer 4. -/
import Derived.Test.YtmkcheiidhppbaaGet
namespace Go.Proofs.Ytmkcheiidhppbaa
open Go.RowKit Bits
namespace Ref04
theorem in_yes (n lo hi : Int) (w : World) (h1 : lo ≤ n) (h2 : n ≤ hi) :
    Calls Try.prog 40 #[.int .i64 n, .int .i64 lo, .int .i64 hi] w fun e w' => e = .returned (.bool true) ∧ ∃ m, w' = w.drewN m := by
  go_enter Try.func40, Try.ntmps40
  go_wp2
  go_ret
  exact ⟨rfl, 0, rfl⟩
theorem in_no (n lo hi : Int) (w : World) (h : n < lo ∨ hi < n) :
    Calls Try.prog 40 #[.int .i64 n, .int .i64 lo, .int .i64 hi] w fun e w' => e = .returned (.bool false) ∧ ∃ m, w' = w.drewN m := by
  by_cases h1 : lo ≤ n
  · have h2 : ¬ n ≤ hi := by omega
    clear h
    go_enter Try.func40, Try.ntmps40
    go_wp2
    go_ret
    exact ⟨rfl, 0, rfl⟩
  · clear h
    go_enter Try.func40, Try.ntmps40
    go_wp2
    go_ret
    exact ⟨rfl, 0, rfl⟩
theorem fits_yes (n b : Int) (w : World) (hb1 : 1 ≤ b) (hb2 : b ≤ 56) (h1 : -(2 ^ (b.toNat - 1)) ≤ n) (h2 : n < 2 ^ (b.toNat - 1)) :
    Calls Try.prog 71 #[.int .i64 n, .int .i64 b] w fun e w' => e = .returned (.bool true) ∧ ∃ m, w' = w.drewN m := by
  obtain ⟨p1, p2⟩ := Ma.pow_bd (b.toNat - 1) 55 (by omega)
  have p2 : (2 : Int) ^ (b.toNat - 1) ≤ 36028797018963968 := p2
  go_enter Try.func71, Try.ntmps71
  go_wp2_with (go_at_call 40; refine (in_yes _ _ _ _ (by omega) (by omega)).mono ?_; rintro e w' ⟨rfl, m, rfl⟩)
  go_ret
  exact ⟨rfl, _, rfl⟩
theorem fits_no (n b : Int) (w : World) (h : b < 1 ∨ 56 < b ∨ n < -(2 ^ (b.toNat - 1)) ∨ 2 ^ (b.toNat - 1) ≤ n) :
    Calls Try.prog 71 #[.int .i64 n, .int .i64 b] w fun e w' => e = .returned (.bool false) ∧ ∃ m, w' = w.drewN m := by
  by_cases hb : 1 ≤ b ∧ b ≤ 56
  · obtain ⟨hb1, hb2⟩ := hb
    obtain ⟨p1, p2⟩ := Ma.pow_bd (b.toNat - 1) 55 (by omega)
    have p2 : (2 : Int) ^ (b.toNat - 1) ≤ 36028797018963968 := p2
    by_cases h1 : n < -(2 ^ (b.toNat - 1))
    · clear h
      go_enter Try.func71, Try.ntmps71
      go_wp2_with (go_at_call 40; refine (in_yes _ _ _ _ (by omega) (by omega)).mono ?_; rintro e w' ⟨rfl, m, rfl⟩)
      go_ret
      exact ⟨rfl, _, rfl⟩
    · have h2 : 2 ^ (b.toNat - 1) ≤ n := by omega
      have hd : decide (n < 2 ^ (b.toNat - 1)) = false := by simp; omega
      clear h
      go_enter Try.func71, Try.ntmps71
      go_wp2_with (go_at_call 40; refine (in_yes _ _ _ _ (by omega) (by omega)).mono ?_; rintro e w' ⟨rfl, m, rfl⟩)
      go_ret
      exact ⟨rfl, _, rfl⟩
  · clear h
    go_enter Try.func71, Try.ntmps71
    go_wp2_with (go_at_call 40; refine (in_no _ _ _ _ (by omega)).mono ?_; rintro e w' ⟨rfl, m, rfl⟩)
    go_ret
    exact ⟨rfl, _, rfl⟩
theorem wrap_no (n b : Int) (w : World) (h : b < 1 ∨ 56 < b ∨ n < -(2 ^ (b.toNat - 1)) ∨ 2 ^ (b.toNat - 1) ≤ n) :
    Calls Try.prog 67 #[.int .i64 n, .int .i64 b] w fun e w' => e = .returned (.tuple #[.int .i64 0, .int .i64 2]) ∧ ∃ m, w' = w.drewN m := by
  go_enter Try.func67, Try.ntmps67
  go_wp2_with (go_at_call 71; refine (fits_no _ _ _ h).mono ?_; rintro e w' ⟨rfl, m, rfl⟩)
  go_ret2
  exact ⟨rfl, _, rfl⟩
theorem wrap_yes (n b : Int) (w : World) (hb1 : 1 ≤ b) (hb2 : b ≤ 56) (h1 : -(2 ^ (b.toNat - 1)) ≤ n) (h2 : n < 2 ^ (b.toNat - 1)) :
    Calls Try.prog 67 #[.int .i64 n, .int .i64 b] w fun e w' => e = .returned (.tuple #[.int .i64 (n % 2 ^ b.toNat), .int .i64 0]) ∧ ∃ m, w' = w.drewN m := by
  obtain ⟨p1, p2⟩ := Ma.pow_bd b.toNat 56 (by omega)
  have p2 : (2 : Int) ^ b.toNat ≤ 72057594037927936 := p2
  have e1 := Ma.pow_half b.toNat (by omega)
  have hneg : Hid (n < 0 → n % 2 ^ b.toNat = n + 2 ^ b.toNat) := fun h => by
    rw [← Int.add_emod_right]; exact Int.emod_eq_of_lt (by omega) (by omega)
  have hpos : Hid (0 ≤ n → n % 2 ^ b.toNat = n) := fun h => Int.emod_eq_of_lt h (by omega)
  have g1 : -(2 ^ b.toNat) ≤ n := by omega
  have g2 : n < 2 ^ b.toNat := by omega
  clear e1
  by_cases h0 : n < 0
  · go_enter Try.func67, Try.ntmps67
    go_wp2_with (go_at_call 71; refine (fits_yes _ _ _ hb1 hb2 h1 h2).mono ?_; rintro e w' ⟨rfl, m, rfl⟩)
    go_ret2
    exact ⟨ret2 (hneg.out h0).symm rfl, _, rfl⟩
  · go_enter Try.func67, Try.ntmps67
    go_wp2_with (go_at_call 71; refine (fits_yes _ _ _ hb1 hb2 h1 h2).mono ?_; rintro e w' ⟨rfl, m, rfl⟩)
    go_ret2
    exact ⟨ret2 (hpos.out (by omega)).symm rfl, _, rfl⟩
theorem sign_no (n b : Int) (w : World) (h : b < 1 ∨ 56 < b ∨ n < 0 ∨ 2 ^ b.toNat ≤ n) :
    Calls Try.prog 69 #[.int .i64 n, .int .i64 b] w fun e w' => e = .returned (.tuple #[.int .i64 0, .int .i64 2]) ∧ ∃ m, w' = w.drewN m := by
  by_cases hb : 1 ≤ b ∧ b ≤ 56
  · obtain ⟨hb1, hb2⟩ := hb
    obtain ⟨p1, p2⟩ := Ma.pow_bd b.toNat 56 (by omega)
    have p2 : (2 : Int) ^ b.toNat ≤ 72057594037927936 := p2
    by_cases h1 : n < 0
    · clear h
      go_enter Try.func69, Try.ntmps69
      go_wp2_with (go_at_call 40; refine (in_yes _ _ _ _ (by omega) (by omega)).mono ?_; rintro e w' ⟨rfl, m, rfl⟩)
      go_ret2
      exact ⟨rfl, _, rfl⟩
    · have h2 : 2 ^ b.toNat ≤ n := by omega
      clear h
      go_enter Try.func69, Try.ntmps69
      go_wp2_with (go_at_call 40; refine (in_yes _ _ _ _ (by omega) (by omega)).mono ?_; rintro e w' ⟨rfl, m, rfl⟩)
      go_ret2
      exact ⟨rfl, _, rfl⟩
  · clear h
    go_enter Try.func69, Try.ntmps69
    go_wp2_with (go_at_call 40; refine (in_no _ _ _ _ (by omega)).mono ?_; rintro e w' ⟨rfl, m, rfl⟩)
    go_ret2
    exact ⟨rfl, _, rfl⟩
theorem sg_lt {n p q : Int} (h : n < p) : Ma.sg n p q = n := if_pos h
theorem sg_ge {n p q : Int} (h : ¬ n < p) : Ma.sg n p q = n - q := if_neg h
theorem sign_yes (n b : Int) (w : World) (hb1 : 1 ≤ b) (hb2 : b ≤ 56) (h1 : 0 ≤ n) (h2 : n < 2 ^ b.toNat) :
    Calls Try.prog 69 #[.int .i64 n, .int .i64 b] w fun e w' => e = .returned (.tuple #[.int .i64 (Ma.sg n (2 ^ (b.toNat - 1)) (2 ^ b.toNat)), .int .i64 0]) ∧ ∃ m, w' = w.drewN m := by
  obtain ⟨p1, p2⟩ := Ma.pow_bd b.toNat 56 (by omega)
  have p2 : (2 : Int) ^ b.toNat ≤ 72057594037927936 := p2
  obtain ⟨q1, q2⟩ := Ma.pow_bd (b.toNat - 1) 55 (by omega)
  have q2 : (2 : Int) ^ (b.toNat - 1) ≤ 36028797018963968 := q2
  by_cases h0 : n < 2 ^ (b.toNat - 1)
  · rw [sg_lt h0]
    go_enter Try.func69, Try.ntmps69
    go_wp2_with (go_at_call 40; refine (in_yes _ _ _ _ (by omega) (by omega)).mono ?_; rintro e w' ⟨rfl, m, rfl⟩)
    go_ret2
    exact ⟨rfl, _, rfl⟩
  · rw [sg_ge h0]
    go_enter Try.func69, Try.ntmps69
    go_wp2_with (go_at_call 40; refine (in_yes _ _ _ _ (by omega) (by omega)).mono ?_; rintro e w' ⟨rfl, m, rfl⟩)
    go_ret2
    exact ⟨rfl, _, rfl⟩
theorem pair_no (n i : Int) (w : World) (h : n < 0 ∨ 4294967295 < n ∨ i < 0 ∨ 15 < i) :
    Calls Try.prog 73 #[.int .i64 n, .int .i64 i] w fun e w' => e = .returned (.tuple #[.int .i64 0, .int .i64 2]) ∧ ∃ m, w' = w.drewN m := by
  by_cases hb : 0 ≤ n ∧ n ≤ 4294967295
  · obtain ⟨hb1, hb2⟩ := hb
    have h' : i < 0 ∨ 15 < i := by omega
    clear h
    go_enter Try.func73, Try.ntmps73
    go_wp2_with (go_at_call 40; (first | refine (in_yes _ _ _ _ (by omega) (by omega)).mono ?_ | refine (in_no _ _ _ _ (by omega)).mono ?_); rintro e w' ⟨rfl, m, rfl⟩)
    go_ret2
    exact ⟨rfl, _, rfl⟩
  · clear h
    go_enter Try.func73, Try.ntmps73
    go_wp2_with (go_at_call 40; refine (in_no _ _ _ _ (by omega)).mono ?_; rintro e w' ⟨rfl, m, rfl⟩)
    go_ret2
    exact ⟨rfl, _, rfl⟩
theorem pair_yes (n i : Int) (w : World) (h1 : 0 ≤ n) (h2 : n ≤ 4294967295) (h3 : 0 ≤ i) (h4 : i ≤ 15) :
    Calls Try.prog 73 #[.int .i64 n, .int .i64 i] w fun e w' => e = .returned (.tuple #[.int .i64 (Ma.pr n (15 - i).toNat), .int .i64 0]) ∧ ∃ m, w' = w.drewN m := by
  obtain ⟨s, hs⟩ : ∃ s : Nat, s = 2 * (15 - i).toNat := ⟨_, rfl⟩
  have Hs : Hid (s = 2 * (15 - i).toNat) := hs
  have H : Hid ((30 - 2 * i).toNat = s) := by show _ = _; omega
  clear hs
  go_enter Try.func73, Try.ntmps73
  go_wp2_with (go_at_call 40; refine (in_yes _ _ _ _ (by omega) (by omega)).mono ?_; rintro e w' ⟨rfl, m, rfl⟩)
  go_ret2
  exact ⟨ret2 (by rw [H.out]; exact Ma.pr_bits _ _ _ Hs.out) rfl, _, rfl⟩
theorem setPair_yes (n i v : Int) (w : World) (h1 : 0 ≤ n) (h2 : n ≤ 4294967295) (h3 : 0 ≤ i) (h4 : i ≤ 15) (h5 : 0 ≤ v) (h6 : v ≤ 3) :
    Calls Try.prog 75 #[.int .i64 n, .int .i64 i, .int .i64 v] w fun e w' => e = .returned (.tuple #[.int .i64 (Ma.setPr n (15 - i).toNat v), .int .i64 0]) ∧ ∃ m, w' = w.drewN m := by
  obtain ⟨s, hs⟩ : ∃ s : Nat, s = 2 * (15 - i).toNat := ⟨_, rfl⟩
  have hs30 : s ≤ 30 := by omega
  have Hs : Hid (s = 2 * (15 - i).toNat) := hs
  have H : Hid ((30 - 2 * i).toNat = s) := by show _ = _; omega
  obtain ⟨p1, p2⟩ := Ma.pow_bd (30 - 2 * i).toNat 30 (by omega)
  clear hs
  have p2 : (2 : Int) ^ (30 - 2 * i).toNat ≤ 1073741824 := p2
  have q1 : 0 ≤ v * 2 ^ (30 - 2 * i).toNat := Int.mul_nonneg h5 (by omega)
  have q2 : v * 2 ^ (30 - 2 * i).toNat ≤ 3 * 2 ^ (30 - 2 * i).toNat := Int.mul_le_mul_of_nonneg_right h6 (by omega)
  go_enter Try.func75, Try.ntmps75
  go_wp2_with (go_at_call 40; refine (in_yes _ _ _ _ (by omega) (by omega)).mono ?_; rintro e w' ⟨rfl, m, rfl⟩)
  go_ret2
  exact ⟨ret2 (by rw [H.out]; exact Ma.setPr_bits n v _ s Hs.out (by omega) h1 h2 h5 h6) rfl, _, rfl⟩
theorem setPair_no (n i v : Int) (w : World) (h : n < 0 ∨ 4294967295 < n ∨ i < 0 ∨ 15 < i ∨ v < 0 ∨ 3 < v) :
    Calls Try.prog 75 #[.int .i64 n, .int .i64 i, .int .i64 v] w fun e w' => e = .returned (.tuple #[.int .i64 0, .int .i64 2]) ∧ ∃ m, w' = w.drewN m := by
  by_cases hb : 0 ≤ n ∧ n ≤ 4294967295
  · obtain ⟨hb1, hb2⟩ := hb
    by_cases hc : 0 ≤ i ∧ i ≤ 15
    · obtain ⟨hc1, hc2⟩ := hc
      have h' : v < 0 ∨ 3 < v := by omega
      clear h
      go_enter Try.func75, Try.ntmps75
      go_wp2_with (go_at_call 40; (first | refine (in_yes _ _ _ _ (by omega) (by omega)).mono ?_ | refine (in_no _ _ _ _ (by omega)).mono ?_); rintro e w' ⟨rfl, m, rfl⟩)
      go_ret2
      exact ⟨rfl, _, rfl⟩
    · clear h
      go_enter Try.func75, Try.ntmps75
      go_wp2_with (go_at_call 40; (first | refine (in_yes _ _ _ _ (by omega) (by omega)).mono ?_ | refine (in_no _ _ _ _ (by omega)).mono ?_); rintro e w' ⟨rfl, m, rfl⟩)
      go_ret2
      exact ⟨rfl, _, rfl⟩
  · clear h
    go_enter Try.func75, Try.ntmps75
    go_wp2_with (go_at_call 40; refine (in_no _ _ _ _ (by omega)).mono ?_; rintro e w' ⟨rfl, m, rfl⟩)
    go_ret2
    exact ⟨rfl, _, rfl⟩
theorem put_no (s : ByteArray) (n wd : Int) (w : World) (h : wd < 1 ∨ 7 < wd ∨ n < 0 ∨ 2 ^ (8 * wd.toNat) ≤ n) :
    Calls Try.prog 63 #[.string s, .int .i64 n, .int .i64 wd] w fun e w' => e = .returned (.tuple #[.string ByteArray.empty, .int .i64 2]) ∧ ∃ m, w' = w.drewN m := by
  by_cases hb : 1 ≤ wd ∧ wd ≤ 7
  · obtain ⟨hb1, hb2⟩ := hb
    obtain ⟨k, rfl⟩ := Int.eq_ofNat_of_zero_le (show 0 ≤ wd by omega)
    rw [Int.toNat_natCast] at h
    obtain ⟨p1, p2⟩ := Ma.pow_bd (8 * k) 56 (by omega)
    have p2 : (2 : Int) ^ (8 * k) ≤ 72057594037927936 := p2
    by_cases h0 : n < 0
    · clear h
      go_enter Try.func63, Try.ntmps63
      go_wp2_with (go_at_call 40; refine (in_yes _ _ _ _ (by omega) (by omega)).mono ?_; rintro e w' ⟨rfl, m, rfl⟩)
      go_ret2
      exact ⟨rfl, _, rfl⟩
    · have h' : 2 ^ (8 * k) ≤ n := by omega
      clear h
      go_enter Try.func63, Try.ntmps63
      go_wp2_with (go_at_call 40; refine (in_yes _ _ _ _ (by omega) (by omega)).mono ?_; rintro e w' ⟨rfl, m, rfl⟩)
      go_ret2
      exact ⟨rfl, _, rfl⟩
  · clear h
    go_enter Try.func63, Try.ntmps63
    go_wp2_with (go_at_call 40; refine (in_no _ _ _ _ (by omega)).mono ?_; rintro e w' ⟨rfl, m, rfl⟩)
    go_ret2
    exact ⟨rfl, _, rfl⟩
set_option maxHeartbeats 400000 in
set_option maxRecDepth 100000 in
theorem put_yes (s : ByteArray) (N : Int) (wd : Nat) (w : World) (hs : s.size ≤ 1000000) (h1 : 1 ≤ wd) (h7 : wd ≤ 7) (hN : 0 ≤ N) (hn : N < 2 ^ (8 * wd)) :
    Calls Try.prog 63 #[.string s,   .int .i64 N, .int .i64 wd] w fun e w' => e = .returned (.tuple #[.string (Ma.cat s (Ma.beTo N.toNat wd 0)), .int .i64 0]) ∧ Below w.heap.size w w' := by
  obtain ⟨p1, p2⟩ := Ma.pow_bd (8 * wd) 56 (by omega)
  have p2 : (2 : Int) ^ (8 * wd) ≤ 72057594037927936 := p2
  obtain ⟨i0, hi, hz0, hz1, hz2⟩ := info_parts infoB
  go_enter Try.func63, Try.ntmps63
  go_wp2_with (first | (go_at_call 40; refine (in_yes _ _ _ _ (by omega) (by omega)).mono ?_; rintro e w' ⟨rfl, m, rfl⟩) | (refine Buf.wpList_bytes rfl _ 9 89 5 rfl Try.underlying9 Try.underlying89 Try.underlying5 s rfl (by unfold maxLen; omega) ?_; intro v1 w1 hown hbel))
  have hb0 : Below w.heap.size w w1 := ⟨hbel.os, hbel.tape, hbel.output, hbel.size, hbel.block⟩
  have hown0 : Buf.Own w.heap.size w1 v1 (byteCells s) := hown
  clear hown hbel
  go_loopw [8, 9] (fun v i wr => ∃ j : Nat, j ≤ wd ∧ i = .int .i64 ((j : Int) - 1) ∧ Buf.Own w.heap.size wr v (byteCells s ++ bvs (Ma.beTo N.toNat wd j)) ∧ Below w.heap.size w wr) (fun _ i _ => (intOf i + 1).toNat)
  case atStart => exact ⟨wd, Nat.le_refl _, rfl, by rw [Ma.beTo_start]; simpa [bvs] using hown0, hb0⟩
  case round =>
    obtain ⟨j, hj, rfl, hown, hbel⟩ := hrel
    clear hown0 hb0
    by_cases hlt : 0 < j
    · obtain ⟨k, rfl⟩ : ∃ k, j = k + 1 := ⟨j - 1, by omega⟩
      have hsz := hbel.size
      have ek : ((k + 1 : Nat) : Int) - 1 = (k : Int) := by omega
      rw [ek]
      have H := Lib.hid ek
      clear ek
      have hb1 : IntKind.u8.wrap (N / 2 ^ (8 * k)) = ((Ma.by8 N.toNat k).toNat : Int) := by rw [IntKind.wrap_u8, Ma.by8_int N k hN]
      have hb2 : (N / 2 ^ (8 * k)) % 256 = ((Ma.by8 N.toNat k).toNat : Int) := by rw [Ma.by8_int N k hN]
      have hlen : (byteCells s ++ bvs (Ma.beTo N.toNat wd (k + 1))).length + 1 ≤ 1000010 := by
        rw [List.length_append, byteCells_length, bvs, List.length_map, Ma.beTo_length]; omega
      go_wp2_with (at_builtin; refine Buf.wpList_append_one rfl _ _ 89 rfl 5 _ i0 (.int .u8 0) 1 Try.underlying89 hi hz0 hz1 hz2 rfl rfl hown hbel hsz (.int .u8 ((Ma.by8 N.toNat k).toNat : Int)) rfl rfl (by unfold maxLen; omega) (by omega) ?_; intro v' w' hown' hb' _)
      go_roundw
      case rel => exact ⟨k, by omega, rfl, by rw [List.append_assoc] at hown'; rw [← Ma.beTo_step N.toNat wd k (by omega)]; simpa [bvs] using hown', hb'⟩
      case measure => simp [intOf]
    · obtain rfl : j = 0 := by omega
      rw [bvs_cat] at hown
      go_wp2_with (refine Buf.wpList_back rfl _ 89 9 5 rfl Try.underlying89 Try.underlying5 Try.underlying9 rfl _ hown ?_)
      go_ret2
      exact ⟨rfl, hbel⟩

theorem get_rng (s : ByteArray) (at_ wd : Int) (w : World) (h : wd < 1 ∨ 7 < wd ∨ at_ < 0) :
    Calls Try.prog 65 #[.string s, .int .i64 at_, .int .i64 wd] w fun e w' => e = .returned (.tuple #[.int .i64 0, .int .i64 2]) ∧ ∃ m, w' = w.drewN m := by
  by_cases hb : 1 ≤ wd ∧ wd ≤ 7
  · obtain ⟨hb1, hb2⟩ := hb
    have h' : at_ < 0 := by omega
    clear h
    go_enter Try.func65, Try.ntmps65
    go_wp2_with (go_at_call 40; (first | refine (in_yes _ _ _ _ (by omega) (by omega)).mono ?_ | refine (in_no _ _ _ _ (by omega)).mono ?_); rintro e w' ⟨rfl, m, rfl⟩)
    go_ret2
    exact ⟨rfl, _, rfl⟩
  · clear h
    go_enter Try.func65, Try.ntmps65
    go_wp2_with (go_at_call 40; (first | refine (in_yes _ _ _ _ (by omega) (by omega)).mono ?_ | refine (in_no _ _ _ _ (by omega)).mono ?_); rintro e w' ⟨rfl, m, rfl⟩)
    go_ret2
    exact ⟨rfl, _, rfl⟩
theorem get_trunc (s : ByteArray) (at_ wd : Int) (w : World) (hs : s.size ≤ 1000000) (h1 : 1 ≤ wd) (h7 : wd ≤ 7) (h0 : 0 ≤ at_) (h : (s.size : Int) - wd < at_) :
    Calls Try.prog 65 #[.string s, .int .i64 at_, .int .i64 wd] w fun e w' => e = .returned (.tuple #[.int .i64 0, .int .i64 4]) ∧ ∃ m, w' = w.drewN m := by
  go_enter Try.func65, Try.ntmps65
  go_wp2_with (go_at_call 40; (first | refine (in_yes _ _ _ _ (by omega) (by omega)).mono ?_ | refine (in_no _ _ _ _ (by omega)).mono ?_); rintro e w' ⟨rfl, m, rfl⟩)
  go_ret2
  exact ⟨rfl, _, rfl⟩
set_option maxHeartbeats 400000 in
theorem get_ok (s : ByteArray) (p wd : Nat) (w : World) (hs : s.size ≤ 1000000) (h1 : 1 ≤ wd) (h7 : wd ≤ 7) (h : p + wd ≤ s.size) :
    Calls Try.prog 65 #[.string s, .int .i64 p, .int .i64 wd] w fun e w' => e = .returned (.tuple #[.int .i64 (Ma.gv ((s.data.toList.drop p).take wd) : Nat), .int .i64 0]) ∧ ∃ m, w' = w.drewN m := by
  go_enter Try.func65, Try.ntmps65
  go_wp2_with (go_at_call 40; (first | refine (in_yes _ _ _ _ (by omega) (by omega)).mono ?_ | refine (in_no _ _ _ _ (by omega)).mono ?_); rintro e w' ⟨rfl, m, rfl⟩)
  go_loop [8, 9] (fun n i => ∃ k : Nat, k ≤ wd ∧ i = .int .i64 k ∧ n = .int .i64 (Ma.gv ((s.data.toList.drop p).take k) : Nat)) (fun _ i => wd - (intOf i).toNat)
  case atStart => exact ⟨0, by omega, rfl, rfl⟩
  case round =>
    obtain ⟨k, hk, rfl, rfl⟩ := hrel
    by_cases hlt : k < wd
    · have hg := Ma.gv_lt6 ((s.data.toList.drop p).take k) (by have := List.length_take_le k (s.data.toList.drop p); omega)
      have hsn := Ma.gv_take s p k (by omega)
      obtain ⟨x, hx⟩ : ∃ x, x = Ma.gv ((s.data.toList.drop p).take k) := ⟨_, rfl⟩
      rw [← hx] at hg hsn ⊢
      have e1 := Ma.or_byte x (s[p + k]'(by omega)).toNat (by omega) (s[p + k]'(by omega)).toNat_lt
      have HS := Lib.hid hsn
      have hb8 : ((s[p + k]'(by omega)).toNat : Int) ≤ 255 := by have := (s[p + k]'(by omega)).toNat_lt; omega
      have hx1 : 0 ≤ (x : Int) * 256 := by omega
      have hx2 : (x : Int) * 256 ≤ 72057594037927936 := by omega
      clear hx hsn
      go_wp2
      go_round
      case rel => exact ⟨k + 1, by omega, by go_num, by rw [HS.out]; go_num⟩
      case measure => simp [intOf]; omega
    · obtain rfl : k = wd := by omega
      go_wp2
      go_ret2
      exact ⟨rfl, _, rfl⟩
end Ref04
end Go.Proofs.Ytmkcheiidhppbaa
