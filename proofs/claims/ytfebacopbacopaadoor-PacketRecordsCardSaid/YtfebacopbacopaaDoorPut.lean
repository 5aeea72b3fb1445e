/- Contracts of bits.Put and bits.Get. -/
import Derived.Test.YtfebacopbacopaaDoorBits
import Derived.Test.YtfebacopbacopaaDoorBuf
namespace Go.Proofs.YtfebacopbacopaaDoor
open Go.RowKit
namespace Bits
theorem infoB : (Tryd.prog.info? 5).map (fun i => (i.zero, i.size, i.bytes)) = some (some (.int .u8 0), 1, 1) := by kernel_rfl
def bvs (l : List UInt8) : List Value := l.map fun b => Value.int .u8 b.toNat
theorem bvs_cat (s : ByteArray) (l : List UInt8) : byteCells s ++ bvs l = (s.data.toList ++ l).map fun b => Value.int .u8 b.toNat := by simp [byteCells, bvs]
theorem u8_in (n : Nat) (h : n < 256) : IntKind.u8.wrap (n : Int) = n := by rw [IntKind.wrap_u8]; omega

theorem put_no (s : ByteArray) (n wd : Int) (w : World) (h : wd < 1 ∨ 7 < wd ∨ n < 0 ∨ 2 ^ (8 * wd.toNat) ≤ n) :
    Calls Tryd.prog 28 #[.string s, .int .i64 n, .int .i64 wd] w fun e w' => e = .returned (.tuple #[.string ByteArray.empty, .int .i64 2]) ∧ ∃ m, w' = w.drewN m := by
  by_cases hb : 1 ≤ wd ∧ wd ≤ 7
  · obtain ⟨hb1, hb2⟩ := hb
    obtain ⟨k, rfl⟩ := Int.eq_ofNat_of_zero_le (show 0 ≤ wd by omega)
    rw [Int.toNat_natCast] at h
    obtain ⟨p1, p2⟩ := Ma.pow_bd (8 * k) 56 (by omega)
    have p2 : (2 : Int) ^ (8 * k) ≤ 72057594037927936 := p2
    have h' : n < 0 ∨ 2 ^ (8 * k) ≤ n := by omega
    clear h
    go_enter Tryd.func28, Tryd.ntmps28
    go_wp2_with (go_at_call 32; (first | refine (within_yes _ _ _ _ (by omega) (by omega)).mono ?_ | refine (within_no _ _ _ _ (by omega)).mono ?_); rintro e w' ⟨rfl, m, rfl⟩)
    go_ret2
    exact ⟨rfl, _, rfl⟩
  · clear h
    go_enter Tryd.func28, Tryd.ntmps28
    go_wp2_with (go_at_call 32; (first | refine (within_yes _ _ _ _ (by omega) (by omega)).mono ?_ | refine (within_no _ _ _ _ (by omega)).mono ?_); rintro e w' ⟨rfl, m, rfl⟩)
    go_ret2
    exact ⟨rfl, _, rfl⟩
set_option maxHeartbeats 400000 in
theorem put_yes (s : ByteArray) (n wd : Nat) (w : World) (hs : s.size ≤ 1000000) (h1 : 1 ≤ wd) (h7 : wd ≤ 7) (hn : n < 2 ^ (8 * wd)) :
    Calls Tryd.prog 28 #[.string s, .int .i64 n, .int .i64 wd] w fun e w' => e = .returned (.tuple #[.string (Ma.cat s (Ma.beTo n wd 0)), .int .i64 0]) ∧ Below w.heap.size w w' := by
  obtain ⟨p1, p2⟩ := Ma.pow_bd (8 * wd) 56 (by omega)
  have p2 : (2 : Int) ^ (8 * wd) ≤ 72057594037927936 := p2
  have hn' : (n : Int) < 2 ^ (8 * wd) := by exact_mod_cast hn
  clear hn
  obtain ⟨i0, hi, hz0, hz1, hz2⟩ := info_parts infoB
  go_enter Tryd.func28, Tryd.ntmps28
  go_wp2_with (first | (go_at_call 32; refine (within_yes _ _ _ _ (by omega) (by omega)).mono ?_; rintro e w' ⟨rfl, m, rfl⟩) | (refine Buf.wpList_bytes rfl _ 9 75 5 rfl Tryd.underlying9 Tryd.underlying75 Tryd.underlying5 s rfl (by unfold maxLen; omega) ?_; intro v1 w1 hown hbel))
  have hb0 : Below w.heap.size w w1 := ⟨hbel.os, hbel.tape, hbel.output, hbel.size, hbel.block⟩
  have hown0 : Buf.Own w.heap.size w1 v1 (byteCells s) := hown
  clear hown hbel
  go_loopw [8, 9] (fun v i wr => ∃ j : Nat, j ≤ wd ∧ i = .int .i64 ((j : Int) - 1) ∧ Buf.Own w.heap.size wr v (byteCells s ++ bvs (Ma.beTo n wd j)) ∧ Below w.heap.size w wr) (fun _ i _ => (intOf i + 1).toNat)
  case atStart => exact ⟨wd, Nat.le_refl _, rfl, by rw [Ma.beTo_start]; simpa [bvs] using hown0, hb0⟩
  case round =>
    obtain ⟨j, hj, rfl, hown, hbel⟩ := hrel
    clear hown0 hb0
    by_cases hlt : 0 < j
    · obtain ⟨k, rfl⟩ : ∃ k, j = k + 1 := ⟨j - 1, by omega⟩
      have hsz := hbel.size
      have ek : ((k + 1 : Nat) : Int) - 1 = (k : Int) := by omega
      rw [ek]
      have H := Lib.hid ek
      clear ek
      have hb1 := Ma.by8_bits n k (8 * k) rfl
      have hb2 : IntKind.u8.wrap ((Ma.by8 n k).toNat : Int) = ((Ma.by8 n k).toNat : Int) := u8_in _ (Ma.by8 n k).toNat_lt
      have hlen : (byteCells s ++ bvs (Ma.beTo n wd (k + 1))).length + 1 ≤ 1000010 := by
        rw [List.length_append, byteCells_length, bvs, List.length_map, Ma.beTo_length]; omega
      go_wp2_with (at_builtin; refine Buf.wpList_append_one rfl _ _ 75 rfl 5 _ i0 (.int .u8 0) 1 Tryd.underlying75 hi hz0 hz1 hz2 rfl rfl hown hbel hsz (.int .u8 ((Ma.by8 n k).toNat : Int)) rfl rfl (by unfold maxLen; omega) (by omega) ?_; intro v' w' hown' hb' _)
      go_roundw
      case rel => exact ⟨k, by omega, rfl, by rw [List.append_assoc] at hown'; rw [← Ma.beTo_step n wd k (by omega)]; simpa [bvs] using hown', hb'⟩
      case measure => simp [intOf]
    · obtain rfl : j = 0 := by omega
      rw [bvs_cat] at hown
      go_wp2_with (refine Buf.wpList_back rfl _ 75 9 5 rfl Tryd.underlying75 Tryd.underlying5 Tryd.underlying9 rfl _ hown ?_)
      go_ret2
      exact ⟨rfl, hbel⟩
end Bits
end Go.Proofs.YtfebacopbacopaaDoor
