/- Contracts of crc.Update and of the reference's run. -/
import Derived.Test.YtfebacopbacopaaDoorCrc
namespace Go.Proofs.YtfebacopbacopaaDoor
open Go.RowKit
namespace Crc

theorem u8_of (x : Nat) : IntKind.u8.wrap (x : Int) = ((x % 256 : Nat) : Int) := by rw [IntKind.wrap_u8]; omega
theorem u8_x (a b : Nat) (ha : a < 256) (hb : b < 256) : bits .xor .u8 (a : Int) (b : Int) = ((a ^^^ b : Nat) : Int) := u8_xor_nat a b ha hb
theorem u32_x (a b : Nat) (ha : a < 4294967296) (hb : b < 4294967296) : bits .xor .u32 (a : Int) (b : Int) = ((a ^^^ b : Nat) : Int) := u32_xor_nat a b ha hb
theorem u32_ones (a : Nat) (ha : a < 4294967296) : bits .xor .u32 (a : Int) 4294967295 = ((a ^^^ 4294967295 : Nat) : Int) := u32_xor_nat a 4294967295 ha (by decide)
theorem u32_in (a : Nat) (ha : a < 4294967296) : IntKind.u32.wrap (a : Int) = (a : Int) := by rw [IntKind.wrap_u32]; omega
theorem take_snoc (s : ByteArray) (k : Nat) (h : k < s.size) : s.data.toList.take (k + 1) = s.data.toList.take k ++ [s[k]] := by
  rw [List.take_succ_eq_append_getElem (by simpa using h)]; rfl
theorem update_bad (sum : Int) (s : ByteArray) (w : World) (h : sum < 0 ∨ 4294967295 < sum) :
    Calls Tryd.prog 68 #[.int .i64 sum, .string s] w fun e w' => e = .returned (.int .i64 0) ∧ Below w.heap.size w w' := by
  by_cases h0 : sum < 0
  · clear h
    go_enter Tryd.func68, Tryd.ntmps68
    go_wp2_with fail
    go_ret
    exact ⟨rfl, Below.refl _ _⟩
  · have h1 : 4294967295 < sum := by omega
    clear h
    go_enter Tryd.func68, Tryd.ntmps68
    go_wp2_with fail
    go_ret
    exact ⟨rfl, Below.refl _ _⟩
set_option maxHeartbeats 800000 in
set_option maxRecDepth 100000 in
theorem update_any (sum : Nat) (s : ByteArray) (w : World) (h : sum < 4294967296) (hs : s.size ≤ 1000000) :
    Calls Tryd.prog 68 #[.int .i64 sum, .string s] w fun e w' => e = .returned (.int .i64 (Cm.updOf sum s.data.toList : Nat)) ∧ Below w.heap.size w w' := by
  have e0 := u32_in sum h
  have e1 := u32_ones sum h
  go_enter Tryd.func68, Tryd.ntmps68
  go_wp2_with (first | (go_at_call 85; refine (table_any _).mono ?_; rintro e w1 ⟨rfl, hb⟩) | (refine wpList_alloc_row rfl 133 rfl (.agg (tabCells 0)) (tabCells 0) zeroT rfl ?_) | (refine wpList_store_row rfl 133 _ _ rfl w1.heap.size (tabCells 256) rfl rfl 133 (tabCells 0) (heap_alloc_new _ _) (by rw [tabCells_size]; exact sizeT) (by rw [tabCells_size, tabCells_size]) (tabCells_one _) ?_))
  obtain ⟨W, hW⟩ : ∃ W, W = (w1.alloc (.cells (tabCells 0) 133)).setRow w1.heap.size (tabCells 256) := ⟨_, rfl⟩
  have HG : Hid (W.heap[w1.heap.size]? = some (.cells (tabCells 256) 133 (0, 0))) := by rw [hW]; exact setRow_heap _ _ _ _ _ _ (heap_alloc_new _ _)
  have hbW : Below w.heap.size w W := by rw [hW]; exact below_setRow (hb.alloc hb.size _) hb.size _
  rw [← hW]
  clear hW e0 e1 hb
  go_loop [6, 20] (fun x i => ∃ k : Nat, k ≤ s.size ∧ i = .int .i64 k ∧ x = .int .u32 (Cm.reg (sum ^^^ 4294967295) (s.data.toList.take k) : Nat)) (fun _ i => s.size - (intOf i).toNat)
  case atStart => exact ⟨0, Nat.zero_le _, rfl, rfl⟩
  case round =>
    obtain ⟨k, hk, rfl, rfl⟩ := hrel
    obtain ⟨x, hx⟩ : ∃ x, x = Cm.reg (sum ^^^ 4294967295) (s.data.toList.take k) := ⟨_, rfl⟩
    have hxl : x < 4294967296 := by rw [hx]; exact Cm.reg_lt _ (Cm.xor_lt h (by decide))
    rw [← hx]
    have Hx := Lib.hid hx
    clear hx
    by_cases hlt : k < s.size
    · have hb8 : s[k].toNat < 256 := s[k].toNat_lt
      have hl : (x % 256) ^^^ s[k].toNat < 256 := Cm.xor_lt8 (Nat.mod_lt _ (by decide)) hb8
      have d1 : ((x % 256 : Nat) : Int) = (x : Int) % 256 := by omega
      have e2 := u8_x (x % 256) s[k].toNat (Nat.mod_lt _ (by decide)) hb8
      have htl := Cm.tab_lt (i := (x % 256) ^^^ s[k].toNat) (by omega)
      have e3 := u32_x (Cm.tab ((x % 256) ^^^ s[k].toNat)) (x / 256) htl (by omega)
      have d2 : ((x / 256 : Nat) : Int) = (x : Int) / 256 := by omega
      rw [d2] at e3
      rw [d1] at e2
      have hcell : W.cell? ⟨w1.heap.size, (x % 256) ^^^ s[k].toNat, none⟩ = some (.int .u32 (Cm.tab ((x % 256) ^^^ s[k].toNat) : Nat)) := by
        rw [cell_of_row W _ _ _ _ _ HG.out]; exact tabCells_full _ hl
      have HS : Hid (Cm.reg (sum ^^^ 4294967295) (s.data.toList.take (k + 1)) = Cm.tab ((x % 256) ^^^ s[k].toNat) ^^^ (x / 256)) := by
        show _ = _
        rw [take_snoc s k hlt, Cm.reg_snoc, ← Hx.out]; rfl
      go_wp2
      go_round
      case rel => exact ⟨k + 1, by omega, by go_num, by rw [HS.out]⟩
      case measure => simp [intOf]; omega
    · have e1 := u32_ones x hxl
      have hy : x ^^^ 4294967295 < 4294967296 := Cm.xor_lt hxl (by decide)
      have HS : Hid (Cm.updOf sum s.data.toList = x ^^^ 4294967295) := by
        show _ = _
        rw [Hx.out, List.take_of_length_le (by simp; omega)]; rfl
      go_wp2
      go_ret
      exact ⟨ret1 (by rw [HS.out]), hbW⟩
end Crc
end Go.Proofs.YtfebacopbacopaaDoor
