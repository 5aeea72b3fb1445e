/- Contracts of crc.Sum and crc.Append. -/
import Derived.Test.YtfebacopbacopaaDoorCrcUpd
import Derived.Lib.Strings
namespace Go.Proofs.YtfebacopbacopaaDoor
open Go.RowKit
namespace Crc
theorem sum_any (s : ByteArray) (w : World) (hs : s.size ≤ 1000000) :
    Calls Tryd.prog 50 #[.string s] w fun e w' => e = .returned (.int .i64 (Cm.updOf 0 s.data.toList : Nat)) ∧ Below w.heap.size w w' := by
  have c : ∀ w, Calls Tryd.prog 68 #[.int .i64 0, .string s] w fun e w' => e = .returned (.int .i64 (Cm.updOf 0 s.data.toList : Nat)) ∧ Below w.heap.size w w' := fun w => update_any 0 s w (by decide) hs
  have C := Lib.hid c
  clear c
  go_enter Tryd.func50, Tryd.ntmps50
  go_wp2_with (go_at_call 68; with_reducible refine (C.out _).mono ?_; rintro e w' ⟨rfl, hb⟩)
  go_ret
  exact ⟨rfl, hb⟩
theorem infoB : (Tryd.prog.info? 5).map (fun i => (i.zero, i.size, i.bytes)) = some (some (.int .u8 0), 1, 1) := by kernel_rfl
def bvs (l : List UInt8) : List Value := l.map fun b => Value.int .u8 b.toNat
theorem bvs_cat (s : ByteArray) (l : List UInt8) : byteCells s ++ bvs l = (s.data.toList ++ l).map fun b => Value.int .u8 b.toNat := by simp [byteCells, bvs]
theorem u8_in (n : Nat) (h : n < 256) : IntKind.u8.wrap (n : Int) = n := by rw [IntKind.wrap_u8]; omega
set_option maxHeartbeats 1000000 in
set_option maxRecDepth 100000 in
theorem append_any (s : ByteArray) (w : World) (hs : s.size ≤ 1000000) :
    Calls Tryd.prog 29 #[.string s] w fun e w' => e = .returned (.string (Ma.cat s (Ma.leTo (Cm.updOf 0 s.data.toList) 4))) ∧ Below w.heap.size w w' := by
  obtain ⟨n, hn⟩ : ∃ n, n = Cm.updOf 0 s.data.toList := ⟨_, rfl⟩
  have hnl : n < 4294967296 := by rw [hn]; exact Cm.updOf_lt (by decide) _
  have C : Hid (∀ w, Calls Tryd.prog 50 #[.string s] w fun e w' => e = .returned (.int .i64 (n : Nat)) ∧ Below w.heap.size w w') := by
    rw [hn]; exact fun w => sum_any s w hs
  rw [← hn]
  clear hn
  obtain ⟨i0, hi, hz0, hz1, hz2⟩ := info_parts infoB
  go_enter Tryd.func29, Tryd.ntmps29
  go_wp2_with (first | (go_at_call 50; with_reducible refine (C.out _).mono ?_; rintro e w1 ⟨rfl, hb1⟩) | (refine Buf.wpList_bytes rfl _ 9 75 5 rfl Tryd.underlying9 Tryd.underlying75 Tryd.underlying5 s rfl (by unfold maxLen; omega) ?_; intro v1 w2 hown hbel))
  have hb0 := Buf.then_ hb1 hbel
  have hown0 := hown.mono hb1.size
  clear hown hbel hb1
  go_loopw [4, 10] (fun v i wr => ∃ k : Nat, k ≤ 4 ∧ i = .int .i64 k ∧ Buf.Own w.heap.size wr v (byteCells s ++ bvs (Ma.leTo n k)) ∧ Below w.heap.size w wr) (fun _ i _ => (4 - intOf i).toNat)
  case atStart => exact ⟨0, by omega, rfl, by rw [Ma.leTo_zero]; simpa [bvs] using hown0, hb0⟩
  case round =>
    obtain ⟨k, hk, rfl, hown, hbel⟩ := hrel
    clear hown0 hb0
    by_cases hlt : k < 4
    · have hsz := hbel.size
      have hb1 := Ma.by8_bits n k (8 * k) rfl
      have hb2 : IntKind.u8.wrap ((Ma.by8 n k).toNat : Int) = ((Ma.by8 n k).toNat : Int) := u8_in _ (Ma.by8 n k).toNat_lt
      have hlen : (byteCells s ++ bvs (Ma.leTo n k)).length + 1 ≤ 1000010 := by
        rw [List.length_append, byteCells_length, bvs, List.length_map, Ma.leTo_length]; omega
      go_wp2_with (at_builtin; refine Buf.wpList_append_one rfl _ _ 75 rfl 5 _ i0 (.int .u8 0) 1 Tryd.underlying75 hi hz0 hz1 hz2 rfl rfl hown hbel hsz (.int .u8 ((Ma.by8 n k).toNat : Int)) rfl rfl (by unfold maxLen; omega) (by omega) ?_; intro v' w' hown' hb' _)
      go_roundw
      case rel => exact ⟨k + 1, by omega, by go_num, by rw [List.append_assoc] at hown'; rw [Ma.leTo_succ]; simpa [bvs] using hown', hb'⟩
      case measure => simp [intOf]; omega
    · obtain rfl : k = 4 := by omega
      rw [bvs_cat] at hown
      go_wp2_with (refine Buf.wpList_back rfl _ 75 9 5 rfl Tryd.underlying75 Tryd.underlying5 Tryd.underlying9 rfl _ hown ?_)
      go_ret
      exact ⟨rfl, hbel⟩
/-- What Check answers. -/
def chk (l : List UInt8) : Bool := decide (4 ≤ l.length) && (l.take (l.length - 4) ++ Ma.leTo (Cm.updOf 0 (l.take (l.length - 4))) 4 == l)
theorem chk_short {l : List UInt8} (h : l.length < 4) : chk l = false := by
  have : ¬ 4 ≤ l.length := by omega
  simp [chk, this]
theorem chk_long {l : List UInt8} (h : 4 ≤ l.length) : chk l = (l.take (l.length - 4) ++ Ma.leTo (Cm.updOf 0 (l.take (l.length - 4))) 4 == l) := by simp [chk, h]
theorem retb {a b : Bool} (h : a = b) : Ending.returned (.bool a) = .returned (.bool b) := by rw [h]
theorem check_any (s : ByteArray) (w : World) (hs : s.size ≤ 1000000) :
    Calls Tryd.prog 30 #[.string s] w fun e w' => e = .returned (.bool (chk s.data.toList)) ∧ Below w.heap.size w w' := by
  by_cases h4 : s.size < 4
  · rw [chk_short (l := s.data.toList) (by simpa using h4)]
    have hd : decide (4 ≤ (s.size : Int)) = false := by simp; omega
    go_enter Tryd.func30, Tryd.ntmps30
    go_wp2_with fail
    go_ret
    exact ⟨rfl, Below.refl _ _⟩
  · have hsl : s.data.toList.length = s.size := by simp
    rw [chk_long (l := s.data.toList) (by omega), hsl]
    have A1 := Lib.hid (fun w => append_any (s.extract 0 (s.size - 4)) w (by simp; omega))
    go_enter Tryd.func30, Tryd.ntmps30
    go_wp2_with (go_at_call 29; with_reducible refine (A1.out _).mono ?_; rintro e w1 ⟨rfl, hb1⟩)
    go_ret
    refine ⟨retb ?_, hb1⟩
    rw [Lib.toList_data, Lib.toList_data, Ma.cat_toList, Lib.extract_data, List.drop_zero, Nat.sub_zero]
def appA : ByteArray := Ma.cat ⟨#[97]⟩ (Ma.leTo (Cm.updOf 0 [97]) 4)
end Crc
end Go.Proofs.YtfebacopbacopaaDoor
