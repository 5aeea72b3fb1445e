/- Contracts of the reference of layer 6. -/
import Derived.Test.YtfebacopbacopaaDoorCrcFlip
namespace Go.Proofs.YtfebacopbacopaaDoor
open Go.RowKit Crc
namespace Ref06
theorem in_yes (n lo hi : Int) (w : World) (h1 : lo ≤ n) (h2 : n ≤ hi) :
    Calls Tryd.prog 34 #[.int .i64 n, .int .i64 lo, .int .i64 hi] w fun e w' => e = .returned (.bool true) ∧ ∃ m, w' = w.drewN m := by
  go_enter Tryd.func34, Tryd.ntmps34
  go_wp2
  go_ret
  exact ⟨rfl, 0, rfl⟩
theorem in_no (n lo hi : Int) (w : World) (h : n < lo ∨ hi < n) :
    Calls Tryd.prog 34 #[.int .i64 n, .int .i64 lo, .int .i64 hi] w fun e w' => e = .returned (.bool false) ∧ ∃ m, w' = w.drewN m := by
  by_cases h1 : lo ≤ n
  · have h2 : ¬ n ≤ hi := by omega
    clear h
    go_enter Tryd.func34, Tryd.ntmps34
    go_wp2
    go_ret
    exact ⟨rfl, 0, rfl⟩
  · clear h
    go_enter Tryd.func34, Tryd.ntmps34
    go_wp2
    go_ret
    exact ⟨rfl, 0, rfl⟩
theorem x64 (a b : Nat) (ha : a < 4294967296) (hb : b < 4294967296) : bits .xor .i64 (a : Int) (b : Int) = ((a ^^^ b : Nat) : Int) := Ma.xor_nat a b (by omega) (by omega)
theorem x64P (a : Nat) (ha : a < 4294967296) : bits .xor .i64 (a : Int) 3988292384 = ((a ^^^ 3988292384 : Nat) : Int) := Ma.xor_nat a 3988292384 (by omega) (by decide)
theorem x64ones (a : Nat) (ha : a < 4294967296) : bits .xor .i64 (a : Int) 4294967295 = ((a ^^^ 4294967295 : Nat) : Int) := Ma.xor_nat a 4294967295 (by omega) (by decide)
theorem and1 (a : Nat) : bits .and .i64 (a : Int) 1 = ((a % 2 : Nat) : Int) := by
  have := Ma.and_mask (a : Int) 1 (by decide)
  exact this.trans (by simp)
theorem cells4 (A : Nat) (h : A < 4294967296) : #[Value.int .u8 ((A : Int) % 256), Value.int .u8 ((A : Int) / 256 % 256), Value.int .u8 ((A : Int) / 65536 % 256), Value.int .u8 ((A : Int) / 16777216)] = ((Ma.leTo A 4).map fun b => Value.int .u8 b.toNat).toArray := by
  have e3 : (A : Int) / 16777216 = (A : Int) / 16777216 % 256 := by omega
  rw [e3]
  simp [Ma.leTo, List.range_succ, Ma.by8_toNat]
def str4 (A : Nat) : ByteArray := Ma.cat ⟨#[]⟩ (Ma.leTo A 4)
theorem str4_list (A : Nat) : (str4 A).data.toList = Ma.leTo A 4 := by simp [str4, Ma.cat]
theorem str4_size (A : Nat) : (str4 A).size = 4 := by rw [Lib.size_eq, str4_list, Ma.leTo_length]
theorem str4_cat (s : ByteArray) (A : Nat) : s ++ str4 A = Ma.cat s (Ma.leTo A 4) := by
  have h : (s ++ str4 A).data.toList = (Ma.cat s (Ma.leTo A 4)).data.toList := by rw [Ma.cat_toList, ← str4_list]; simp
  have : (s ++ str4 A).data = (Ma.cat s (Ma.leTo A 4)).data := Array.toList_inj.1 h
  generalize s ++ str4 A = a at *
  generalize Ma.cat s (Ma.leTo A 4) = b at *
  cases a; cases b; simp_all
set_option maxHeartbeats 400000 in
set_option maxRecDepth 100000 in
theorem flip_ok (s : ByteArray) (p n : Nat) (m : Nat) (w : World) (hs : s.size ≤ 1000000) (h1 : 1 ≤ n) (h2 : n ≤ 32) (h5 : (m : Int) ≤ 2 ^ n - 1) (h : p + n ≤ 8 * s.size) :
    Calls Tryd.prog 15 #[.string s, .int .i64 p, .int .i64 n, .int .i64 m] w fun e w' => e = .returned (.tuple #[.string (flipS s p m n), .int .i64 0]) ∧ Below w.heap.size w w' := by
  obtain ⟨p1, p2⟩ := Ma.pow_bd n 32 (by omega)
  have p2 : (2 : Int) ^ n ≤ 4294967296 := p2
  have d1 : decide ((n : Int) < 1) = false := by simp; omega
  have d2 : decide (32 < (n : Int)) = false := by simp; omega
  have d3 : decide ((p : Int) < 0) = false := by simp
  have d4 : decide ((m : Int) < 0) = false := by simp
  have d5 : decide (2 ^ n ≤ (m : Int)) = false := by simp; omega
  have d6 : decide (8 * (s.size : Int) - n < p) = false := by simp; omega
  go_enter Tryd.func15, Tryd.ntmps15
  go_wp2_with (first | (go_at_call 34; (first | refine (in_yes _ _ _ _ (by omega) (by omega)).mono ?_ | refine (in_no _ _ _ _ (by omega)).mono ?_); rintro e w' ⟨rfl, m', rfl⟩) | (refine Buf.wpList_bytes rfl _ 9 75 5 rfl Tryd.underlying9 Tryd.underlying75 Tryd.underlying5 s rfl (by unfold maxLen; omega) ?_; intro v1 w1 hown hbel))
  have hown0 : Buf.Own w.heap.size w1 v1 (bvs (flips s.data.toList p m 0)) := hown
  replace hbel := Buf.of_drewN hbel
  have hl0 : (bvs (flips s.data.toList p m 0)).length = s.size := by rw [bvs, List.length_map, flips_length]; simp
  obtain ⟨g, cap, hv, hg1, _, _, _⟩ := hown0.parts (by omega)
  rw [hl0] at hv
  rw [hv] at hown0 ⊢
  clear hv hl0 hown
  go_loopw [11] (fun i wr => ∃ k : Nat, k ≤ n ∧ i = .int .i64 k ∧ Buf.Own w.heap.size wr (.slice (some ⟨g, 0, none⟩) s.size cap) (bvs (flips s.data.toList p m k)) ∧ Below w.heap.size w wr) (fun i _ => n - (intOf i).toNat)
  case atStart => exact ⟨0, by omega, rfl, hown0, hbel⟩
  case round =>
    obtain ⟨k, hk, rfl, hown, hb⟩ := hrel
    clear hown0
    have hlen : (bvs (flips s.data.toList p m k)).length = s.size := by rw [bvs, List.length_map, flips_length]; simp
    by_cases hlt : k < n
    · have e1 : bits .and .i64 ((m : Int) / 2 ^ k) 1 = ((m / 2 ^ k % 2 : Nat) : Int) := by
        have := Ma.and_mask ((m : Int) / 2 ^ k) 1 (by decide)
        refine this.trans ?_
        simp
      by_cases hbit : m / 2 ^ k % 2 = 1
      · rw [hbit] at e1
        have hq : (p + k) / 8 < (bvs (flips s.data.toList p m k)).length := by omega
        obtain ⟨g', cap', hv, _, _, hcell, hfree⟩ := hown.parts (by omega)
        injection hv with hv1 hv2 hv3
        injection hv1 with hv1
        injection hv1 with hv1
        subst hv1
        have hq' : (p + k) / 8 < (flips s.data.toList p m k).length := by rw [flips_length]; simp; omega
        obtain ⟨b, hbb⟩ : ∃ b, b = (flips s.data.toList p m k).getD ((p + k) / 8) 0 := ⟨_, rfl⟩
        have hc : wr.cell? ⟨g, (p + k) / 8, none⟩ = some (.int .u8 (b.toNat : Int)) := by
          rw [hcell _ hq, hbb]; simp [bvs, List.getD, hq']
        have hf := hfree _ hq
        have e2 := xor_bit b ((p + k) % 8) (Nat.mod_lt _ (by decide))
        have HS : Hid (flips s.data.toList p m (k + 1) = (flips s.data.toList p m k).set ((p + k) / 8) (b ^^^ UInt8.ofNat (2 ^ ((p + k) % 8)))) := by
          show _ = _
          rw [flips_succ, if_pos hbit, hbb]; rfl
        clear hcell hfree hv2 hv3 hbb hq hq' hbit
        go_wp2
        go_roundw
        case rel => exact ⟨k + 1, by omega, by go_num, by rw [HS.out, ← bvs_set, UInt8.toNat_xor, ofNat_bit]; exact hown.store _ _, hb.setCell hg1 _⟩
        case measure => simp [intOf]; omega
      · have hz : m / 2 ^ k % 2 = 0 := by omega
        rw [hz] at e1
        have Hz := Lib.hid hz
        clear hbit hz
        go_wp2
        go_roundw
        case rel => exact ⟨k + 1, by omega, by go_num, by rw [flips_succ, if_neg (by rw [Hz.out]; decide)]; exact hown, hb⟩
        case measure => simp [intOf]; omega
    · obtain rfl : k = n := by omega
      go_wp2_with (refine Buf.wpList_back_as rfl _ 75 9 5 rfl Tryd.underlying75 Tryd.underlying5 Tryd.underlying9 rfl _ hown _ (flipS_list s p m _) ?_)
      go_ret2
      exact ⟨rfl, hb⟩
end Ref06
end Go.Proofs.YtfebacopbacopaaDoor
