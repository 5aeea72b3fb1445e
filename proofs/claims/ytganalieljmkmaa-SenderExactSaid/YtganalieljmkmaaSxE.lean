/- Senders of any numbers and strings: what is refused, Same, and each function as a relation that has one answer. -/
import Derived.Test.YtganalieljmkmaaSxC
import Derived.Test.YtganalieljmkmaaSxD
import Derived.Deep.DeepCutAuto
set_option linter.unusedVariables false
set_option linter.unusedSimpArgs false
namespace Go.Proofs.Ytganalieljmkmaa
open Go.RowKit Dice Wi
namespace Sx
open Snd (cells3 free3 filt OwnI Pushed)
theorem frozen3 {w : World} {g : Nat} {x y z : Value} {t : TypeId} (h : w.heap[g]? = some (.cells #[x, y, z] t (0, 0))) : w.frozen? ⟨g, 0, none⟩ = false ∧ w.frozen? ⟨g, 1, none⟩ = false ∧ w.frozen? ⟨g, 2, none⟩ = false := free3 h
set_option maxHeartbeats 4000000 in
set_option maxRecDepth 100000 in
theorem push_inv {w : World} {a : Option Addr} {n c : Nat} {S : LS} (size first : Int) (data : ByteArray) (h : Stw w (.slice a n c) S) (h9 : n ≤ 1000) (no : ¬ OkS size first S) :
    Calls Try.prog 12 #[.agg #[.int .i64 size, .int .i64 first, .slice a n c], .string data] w fun e w' => e = .returned (.tuple #[.agg #[.int .i64 0, .int .i64 0, .slice none 0 0], .int .i64 0, .int .i64 1]) ∧ Below w.heap.size w w' := by
  have HV := Lib.hid (show ∀ wx, Below w.heap.size w wx → Calls Try.prog 15 #[.agg #[.int .i64 size, .int .i64 first, .slice a n c]] wx fun e w' => e = .returned (.bool false) ∧ Below wx.heap.size wx w' from fun wx hb => by rw [← okB_no no]; exact valid_all size first (h.keep hb) (by have := (Stw.len h).1; omega))
  clear h no
  go_enter Try.func12, Try.ntmps12
  obtain ⟨wb, hwb⟩ : ∃ wb, wb = (w.alloc (.cells #[.int .i64 size, .int .i64 first, .slice a n c] 25)).alloc (.cells #[.int .i64 0, .int .i64 0, .slice none 0 0] 25) := ⟨_, rfl⟩
  have B0 := Lib.hid (show Below w.heap.size w wb by rw [hwb]; exact Buf.then_ (new_block _) (new_block _))
  have PX := Lib.hid (show wb.heap[w.heap.size]? = some (.cells #[.int .i64 size, .int .i64 first, .slice a n c] 25 (0, 0)) by rw [hwb]; exact hop3 (new_block _) (heap_alloc_new w _))
  have PY := Lib.hid (show wb.heap[w.heap.size + 1]? = some (.cells #[.int .i64 0, .int .i64 0, .slice none 0 0] 25 (0, 0)) by
    have e : (w.alloc (.cells #[.int .i64 size, .int .i64 first, .slice a n c] 25)).heap.size = w.heap.size + 1 := by simp
    rw [hwb, ← e]; exact heap_alloc_new _ _)
  obtain ⟨k0, k1, k2⟩ := cells3 PX.out
  go_upto_region 1 with fail
  rw [← hwb]
  clear hwb
  go_wp2_with fail
  refine (HV.out _ B0.out).mono ?_
  rintro e w1 ⟨rfl, hb⟩
  clear k0 k1 k2
  have B1 := Lib.hid (Buf.then_ B0.out hb)
  obtain ⟨k0, k1, k2⟩ := cells3 (hop3 hb PX.out)
  obtain ⟨k3, k4, k5⟩ := cells3 (hop3 hb PY.out)
  obtain ⟨f3, f4, f5⟩ := free3 (hop3 hb PY.out)
  clear hb PX PY HV
  go_wp2_with fail
  refine bodyPost_ret (v := .tuple #[.agg #[.int .i64 0, .int .i64 0, .slice none 0 0], .int .i64 0, .int .i64 1]) (by simp [results, Try.results12, go_sem, k3, k4, k5]) rfl ⟨rfl, ?_⟩
  first | exact B1.out | exact ((B1.out.setCell (p := ⟨w.heap.size + 1, 0, none⟩) (Nat.le_succ _) _).setCell (p := ⟨w.heap.size + 1, 1, none⟩) (Nat.le_succ _) _).setCell (p := ⟨w.heap.size + 1, 2, none⟩) (Nat.le_succ _) _
set_option maxHeartbeats 4000000 in
set_option maxRecDepth 100000 in
theorem push_lim {w : World} {a : Option Addr} {n c : Nat} {S : LS} (size first : Int) (data : ByteArray) (h : Stw w (.slice a n c) S) (h9 : n ≤ 1000) (ok : OkS size first S) (hd : data.size ≤ 4064) (eq : first + (n : Int) = 1073741825) :
    Calls Try.prog 12 #[.agg #[.int .i64 size, .int .i64 first, .slice a n c], .string data] w fun e w' => e = .returned (.tuple #[.agg #[.int .i64 0, .int .i64 0, .slice none 0 0], .int .i64 0, .int .i64 8]) ∧ Below w.heap.size w w' := by
  have HV := Lib.hid (show ∀ wx, Below w.heap.size w wx → Calls Try.prog 15 #[.agg #[.int .i64 size, .int .i64 first, .slice a n c]] wx fun e w' => e = .returned (.bool true) ∧ Below wx.heap.size wx w' from fun wx hb => by rw [← okB_yes ok]; exact valid_all size first (h.keep hb) (by have := (Stw.len h).1; omega))
  obtain ⟨_, _, o3, _⟩ := ok
  have NX := Lib.hid fun (wx : World) => next_s (w := wx) (a := a) (n := n) (c := c) size first o3 (by omega)
  rw [eq] at NX
  replace eq := Lib.hid eq
  clear h
  go_enter Try.func12, Try.ntmps12
  obtain ⟨wb, hwb⟩ : ∃ wb, wb = (w.alloc (.cells #[.int .i64 size, .int .i64 first, .slice a n c] 25)).alloc (.cells #[.int .i64 0, .int .i64 0, .slice none 0 0] 25) := ⟨_, rfl⟩
  have B0 := Lib.hid (show Below w.heap.size w wb by rw [hwb]; exact Buf.then_ (new_block _) (new_block _))
  have PX := Lib.hid (show wb.heap[w.heap.size]? = some (.cells #[.int .i64 size, .int .i64 first, .slice a n c] 25 (0, 0)) by rw [hwb]; exact hop3 (new_block _) (heap_alloc_new w _))
  have PY := Lib.hid (show wb.heap[w.heap.size + 1]? = some (.cells #[.int .i64 0, .int .i64 0, .slice none 0 0] 25 (0, 0)) by
    have e : (w.alloc (.cells #[.int .i64 size, .int .i64 first, .slice a n c] 25)).heap.size = w.heap.size + 1 := by simp
    rw [hwb, ← e]; exact heap_alloc_new _ _)
  obtain ⟨k0, k1, k2⟩ := cells3 PX.out
  go_upto_region 1 with fail
  rw [← hwb]
  clear hwb
  go_wp2_with fail
  refine (HV.out _ B0.out).mono ?_
  rintro e w1 ⟨rfl, hb⟩
  clear k0 k1 k2
  have B1 := Lib.hid (Buf.then_ B0.out hb)
  obtain ⟨k0, k1, k2⟩ := cells3 (hop3 hb PX.out)
  obtain ⟨k3, k4, k5⟩ := cells3 (hop3 hb PY.out)
  obtain ⟨f3, f4, f5⟩ := free3 (hop3 hb PY.out)
  have e2 : decide ((4064 : Int) < data.size) = false := decide_eq_false (by omega)
  go_wp2_with fail
  refine (NX.out _).mono ?_
  rintro e w2 ⟨rfl, hb2⟩
  clear k0 k1 k2 k3 k4 k5 f3 f4 f5
  obtain ⟨k3, k4, k5⟩ := cells3 (hop3 (Buf.then_ hb hb2) PY.out)
  obtain ⟨f3, f4, f5⟩ := free3 (hop3 (Buf.then_ hb hb2) PY.out)
  replace B1 := Lib.hid (Buf.then_ B1.out hb2)
  clear hb hb2 PX PY HV NX
  go_wp2_with fail
  refine bodyPost_ret (v := .tuple #[.agg #[.int .i64 0, .int .i64 0, .slice none 0 0], .int .i64 0, .int .i64 8]) (by simp [results, Try.results12, go_sem, k3, k4, k5]) rfl ⟨rfl, ?_⟩
  first | exact B1.out | exact ((B1.out.setCell (p := ⟨w.heap.size + 1, 0, none⟩) (Nat.le_succ _) _).setCell (p := ⟨w.heap.size + 1, 1, none⟩) (Nat.le_succ _) _).setCell (p := ⟨w.heap.size + 1, 2, none⟩) (Nat.le_succ _) _
set_option maxHeartbeats 4000000 in
set_option maxRecDepth 100000 in
theorem answer_inv {w : World} {a : Option Addr} {n c : Nat} {S : LS} (size first : Int) (v : Value) (most : Int) (h : Stw w (.slice a n c) S) (h9 : n ≤ 1000) (no : ¬ OkS size first S) :
    Calls Try.prog 22 #[.agg #[.int .i64 size, .int .i64 first, .slice a n c], v, .int .i64 most] w fun e w' => e = .returned (.tuple #[.slice none 0 0, .int .i64 1]) ∧ Below w.heap.size w w' := by
  have HV := Lib.hid (show ∀ wx, Below w.heap.size w wx → Calls Try.prog 15 #[.agg #[.int .i64 size, .int .i64 first, .slice a n c]] wx fun e w' => e = .returned (.bool false) ∧ Below wx.heap.size wx w' from fun wx hb => by rw [← okB_no no]; exact valid_all size first (h.keep hb) (by have := (Stw.len h).1; omega))
  clear h no
  go_enter Try.func22, Try.ntmps22
  obtain ⟨wb, hwb⟩ : ∃ wb, wb = w.alloc (.cells #[.int .i64 size, .int .i64 first, .slice a n c] 25) := ⟨_, rfl⟩
  have B0 := Lib.hid (show Below w.heap.size w wb by rw [hwb]; exact new_block _)
  have PX := Lib.hid (show wb.heap[w.heap.size]? = some (.cells #[.int .i64 size, .int .i64 first, .slice a n c] 25 (0, 0)) by rw [hwb]; exact heap_alloc_new w _)
  obtain ⟨k0, k1, k2⟩ := cells3 PX.out
  go_upto_region 1 with fail
  rw [← hwb]
  clear hwb
  go_wp2_with fail
  refine (HV.out _ B0.out).mono ?_
  rintro e w1 ⟨rfl, hb⟩
  clear k0 k1 k2
  have B1 := Lib.hid (Buf.then_ B0.out hb)
  obtain ⟨k0, k1, k2⟩ := cells3 (hop3 hb PX.out)
  clear hb PX HV
  go_wp2_with fail
  go_ret2
  exact ⟨rfl, B1.out⟩
set_option maxHeartbeats 4000000 in
set_option maxRecDepth 100000 in
theorem answer_rng {w : World} {a : Option Addr} {n c : Nat} {S : LS} (size first : Int) (v : Value) (most : Int) (h : Stw w (.slice a n c) S) (h9 : n ≤ 1000) (ok : OkS size first S) (rng : ¬ (0 ≤ most ∧ most ≤ 256)) :
    Calls Try.prog 22 #[.agg #[.int .i64 size, .int .i64 first, .slice a n c], v, .int .i64 most] w fun e w' => e = .returned (.tuple #[.slice none 0 0, .int .i64 2]) ∧ Below w.heap.size w w' := by
  have HV := Lib.hid (show ∀ wx, Below w.heap.size w wx → Calls Try.prog 15 #[.agg #[.int .i64 size, .int .i64 first, .slice a n c]] wx fun e w' => e = .returned (.bool true) ∧ Below wx.heap.size wx w' from fun wx hb => by rw [← okB_yes ok]; exact valid_all size first (h.keep hb) (by have := (Stw.len h).1; omega))
  clear h ok
  go_enter Try.func22, Try.ntmps22
  obtain ⟨wb, hwb⟩ : ∃ wb, wb = w.alloc (.cells #[.int .i64 size, .int .i64 first, .slice a n c] 25) := ⟨_, rfl⟩
  have B0 := Lib.hid (show Below w.heap.size w wb by rw [hwb]; exact new_block _)
  have PX := Lib.hid (show wb.heap[w.heap.size]? = some (.cells #[.int .i64 size, .int .i64 first, .slice a n c] 25 (0, 0)) by rw [hwb]; exact heap_alloc_new w _)
  obtain ⟨k0, k1, k2⟩ := cells3 PX.out
  go_upto_region 1 with fail
  rw [← hwb]
  clear hwb
  go_wp2_with fail
  refine (HV.out _ B0.out).mono ?_
  rintro e w1 ⟨rfl, hb⟩
  clear k0 k1 k2
  have B1 := Lib.hid (Buf.then_ B0.out hb)
  obtain ⟨k0, k1, k2⟩ := cells3 (hop3 hb PX.out)
  clear hb PX HV
  go_wp2_with (go_at_call 27; refine (within_no _ _ _ _ (by omega)).mono ?_; rintro e w2 ⟨rfl, m, rfl⟩)
  go_ret2
  exact ⟨rfl, Buf.below_drewN B1.out _⟩
set_option maxHeartbeats 4000000 in
set_option maxRecDepth 100000 in
theorem refpush_inv {w : World} {a : Option Addr} {n c : Nat} {S : LS} (size first : Int) (data : ByteArray) (h : Stw w (.slice a n c) S) (h9 : n ≤ 1000) (no : ¬ OkS size first S) :
    Calls Try.prog 13 #[.agg #[.int .i64 size, .int .i64 first, .slice a n c], .string data] w fun e w' => e = .returned (.tuple #[.agg #[.int .i64 0, .int .i64 0, .slice none 0 0], .int .i64 0, .int .i64 1]) ∧ Below w.heap.size w w' := by
  have HV := Lib.hid (show ∀ wx, Below w.heap.size w wx → Calls Try.prog 16 #[.agg #[.int .i64 size, .int .i64 first, .slice a n c]] wx fun e w' => e = .returned (.bool false) ∧ Below wx.heap.size wx w' from fun wx hb => by rw [← okB_no no]; exact refvalid_all size first (h.keep hb) (by have := (Stw.len h).1; omega))
  clear h no
  go_enter Try.func13, Try.ntmps13
  obtain ⟨wb, hwb⟩ : ∃ wb, wb = (w.alloc (.cells #[.int .i64 size, .int .i64 first, .slice a n c] 25)).alloc (.cells #[.int .i64 0, .int .i64 0, .slice none 0 0] 25) := ⟨_, rfl⟩
  have B0 := Lib.hid (show Below w.heap.size w wb by rw [hwb]; exact Buf.then_ (new_block _) (new_block _))
  have PX := Lib.hid (show wb.heap[w.heap.size]? = some (.cells #[.int .i64 size, .int .i64 first, .slice a n c] 25 (0, 0)) by rw [hwb]; exact hop3 (new_block _) (heap_alloc_new w _))
  have PY := Lib.hid (show wb.heap[w.heap.size + 1]? = some (.cells #[.int .i64 0, .int .i64 0, .slice none 0 0] 25 (0, 0)) by
    have e : (w.alloc (.cells #[.int .i64 size, .int .i64 first, .slice a n c] 25)).heap.size = w.heap.size + 1 := by simp
    rw [hwb, ← e]; exact heap_alloc_new _ _)
  obtain ⟨k0, k1, k2⟩ := cells3 PX.out
  go_upto_region 1 with fail
  rw [← hwb]
  clear hwb
  go_wp2_with fail
  refine (HV.out _ B0.out).mono ?_
  rintro e w1 ⟨rfl, hb⟩
  clear k0 k1 k2
  have B1 := Lib.hid (Buf.then_ B0.out hb)
  obtain ⟨k0, k1, k2⟩ := cells3 (hop3 hb PX.out)
  obtain ⟨k3, k4, k5⟩ := cells3 (hop3 hb PY.out)
  obtain ⟨f3, f4, f5⟩ := free3 (hop3 hb PY.out)
  clear hb PX PY HV
  go_wp2_with fail
  refine bodyPost_ret (v := .tuple #[.agg #[.int .i64 0, .int .i64 0, .slice none 0 0], .int .i64 0, .int .i64 1]) (by simp [results, Try.results13, go_sem, k3, k4, k5]) rfl ⟨rfl, ?_⟩
  first | exact B1.out | exact ((B1.out.setCell (p := ⟨w.heap.size + 1, 0, none⟩) (Nat.le_succ _) _).setCell (p := ⟨w.heap.size + 1, 1, none⟩) (Nat.le_succ _) _).setCell (p := ⟨w.heap.size + 1, 2, none⟩) (Nat.le_succ _) _
set_option maxHeartbeats 4000000 in
set_option maxRecDepth 100000 in
theorem refpush_lim {w : World} {a : Option Addr} {n c : Nat} {S : LS} (size first : Int) (data : ByteArray) (h : Stw w (.slice a n c) S) (h9 : n ≤ 1000) (ok : OkS size first S) (hd : data.size ≤ 4064) (eq : first + (n : Int) = 1073741825) :
    Calls Try.prog 13 #[.agg #[.int .i64 size, .int .i64 first, .slice a n c], .string data] w fun e w' => e = .returned (.tuple #[.agg #[.int .i64 0, .int .i64 0, .slice none 0 0], .int .i64 0, .int .i64 8]) ∧ Below w.heap.size w w' := by
  have HV := Lib.hid (show ∀ wx, Below w.heap.size w wx → Calls Try.prog 16 #[.agg #[.int .i64 size, .int .i64 first, .slice a n c]] wx fun e w' => e = .returned (.bool true) ∧ Below wx.heap.size wx w' from fun wx hb => by rw [← okB_yes ok]; exact refvalid_all size first (h.keep hb) (by have := (Stw.len h).1; omega))
  obtain ⟨_, _, o3, _⟩ := ok
  have NX := Lib.hid fun (wx : World) => refnext_s (w := wx) (a := a) (n := n) (c := c) size first o3 (by omega)
  rw [eq] at NX
  replace eq := Lib.hid eq
  clear h
  go_enter Try.func13, Try.ntmps13
  obtain ⟨wb, hwb⟩ : ∃ wb, wb = (w.alloc (.cells #[.int .i64 size, .int .i64 first, .slice a n c] 25)).alloc (.cells #[.int .i64 0, .int .i64 0, .slice none 0 0] 25) := ⟨_, rfl⟩
  have B0 := Lib.hid (show Below w.heap.size w wb by rw [hwb]; exact Buf.then_ (new_block _) (new_block _))
  have PX := Lib.hid (show wb.heap[w.heap.size]? = some (.cells #[.int .i64 size, .int .i64 first, .slice a n c] 25 (0, 0)) by rw [hwb]; exact hop3 (new_block _) (heap_alloc_new w _))
  have PY := Lib.hid (show wb.heap[w.heap.size + 1]? = some (.cells #[.int .i64 0, .int .i64 0, .slice none 0 0] 25 (0, 0)) by
    have e : (w.alloc (.cells #[.int .i64 size, .int .i64 first, .slice a n c] 25)).heap.size = w.heap.size + 1 := by simp
    rw [hwb, ← e]; exact heap_alloc_new _ _)
  obtain ⟨k0, k1, k2⟩ := cells3 PX.out
  go_upto_region 1 with fail
  rw [← hwb]
  clear hwb
  go_wp2_with fail
  refine (HV.out _ B0.out).mono ?_
  rintro e w1 ⟨rfl, hb⟩
  clear k0 k1 k2
  have B1 := Lib.hid (Buf.then_ B0.out hb)
  obtain ⟨k0, k1, k2⟩ := cells3 (hop3 hb PX.out)
  obtain ⟨k3, k4, k5⟩ := cells3 (hop3 hb PY.out)
  obtain ⟨f3, f4, f5⟩ := free3 (hop3 hb PY.out)
  have e2 : decide ((4064 : Int) < data.size) = false := decide_eq_false (by omega)
  go_wp2_with fail
  refine (NX.out _).mono ?_
  rintro e w2 ⟨rfl, hb2⟩
  clear k0 k1 k2 k3 k4 k5 f3 f4 f5
  obtain ⟨k3, k4, k5⟩ := cells3 (hop3 (Buf.then_ hb hb2) PY.out)
  obtain ⟨f3, f4, f5⟩ := free3 (hop3 (Buf.then_ hb hb2) PY.out)
  replace B1 := Lib.hid (Buf.then_ B1.out hb2)
  clear hb hb2 PX PY HV NX
  go_wp2_with fail
  refine bodyPost_ret (v := .tuple #[.agg #[.int .i64 0, .int .i64 0, .slice none 0 0], .int .i64 0, .int .i64 8]) (by simp [results, Try.results13, go_sem, k3, k4, k5]) rfl ⟨rfl, ?_⟩
  first | exact B1.out | exact ((B1.out.setCell (p := ⟨w.heap.size + 1, 0, none⟩) (Nat.le_succ _) _).setCell (p := ⟨w.heap.size + 1, 1, none⟩) (Nat.le_succ _) _).setCell (p := ⟨w.heap.size + 1, 2, none⟩) (Nat.le_succ _) _
set_option maxHeartbeats 4000000 in
set_option maxRecDepth 100000 in
theorem refanswer_inv {w : World} {a : Option Addr} {n c : Nat} {S : LS} (size first : Int) (v : Value) (most : Int) (h : Stw w (.slice a n c) S) (h9 : n ≤ 1000) (no : ¬ OkS size first S) :
    Calls Try.prog 23 #[.agg #[.int .i64 size, .int .i64 first, .slice a n c], v, .int .i64 most] w fun e w' => e = .returned (.tuple #[.slice none 0 0, .int .i64 1]) ∧ Below w.heap.size w w' := by
  have HV := Lib.hid (show ∀ wx, Below w.heap.size w wx → Calls Try.prog 16 #[.agg #[.int .i64 size, .int .i64 first, .slice a n c]] wx fun e w' => e = .returned (.bool false) ∧ Below wx.heap.size wx w' from fun wx hb => by rw [← okB_no no]; exact refvalid_all size first (h.keep hb) (by have := (Stw.len h).1; omega))
  clear h no
  go_enter Try.func23, Try.ntmps23
  obtain ⟨wb, hwb⟩ : ∃ wb, wb = w.alloc (.cells #[.int .i64 size, .int .i64 first, .slice a n c] 25) := ⟨_, rfl⟩
  have B0 := Lib.hid (show Below w.heap.size w wb by rw [hwb]; exact new_block _)
  have PX := Lib.hid (show wb.heap[w.heap.size]? = some (.cells #[.int .i64 size, .int .i64 first, .slice a n c] 25 (0, 0)) by rw [hwb]; exact heap_alloc_new w _)
  obtain ⟨k0, k1, k2⟩ := cells3 PX.out
  go_upto_region 1 with fail
  rw [← hwb]
  clear hwb
  go_wp2_with fail
  refine (HV.out _ B0.out).mono ?_
  rintro e w1 ⟨rfl, hb⟩
  clear k0 k1 k2
  have B1 := Lib.hid (Buf.then_ B0.out hb)
  obtain ⟨k0, k1, k2⟩ := cells3 (hop3 hb PX.out)
  clear hb PX HV
  go_wp2_with fail
  go_ret2
  exact ⟨rfl, B1.out⟩
set_option maxHeartbeats 4000000 in
set_option maxRecDepth 100000 in
theorem refanswer_rng {w : World} {a : Option Addr} {n c : Nat} {S : LS} (size first : Int) (v : Value) (most : Int) (h : Stw w (.slice a n c) S) (h9 : n ≤ 1000) (ok : OkS size first S) (rng : ¬ (0 ≤ most ∧ most ≤ 256)) :
    Calls Try.prog 23 #[.agg #[.int .i64 size, .int .i64 first, .slice a n c], v, .int .i64 most] w fun e w' => e = .returned (.tuple #[.slice none 0 0, .int .i64 2]) ∧ Below w.heap.size w w' := by
  have HV := Lib.hid (show ∀ wx, Below w.heap.size w wx → Calls Try.prog 16 #[.agg #[.int .i64 size, .int .i64 first, .slice a n c]] wx fun e w' => e = .returned (.bool true) ∧ Below wx.heap.size wx w' from fun wx hb => by rw [← okB_yes ok]; exact refvalid_all size first (h.keep hb) (by have := (Stw.len h).1; omega))
  clear h ok
  go_enter Try.func23, Try.ntmps23
  obtain ⟨wb, hwb⟩ : ∃ wb, wb = w.alloc (.cells #[.int .i64 size, .int .i64 first, .slice a n c] 25) := ⟨_, rfl⟩
  have B0 := Lib.hid (show Below w.heap.size w wb by rw [hwb]; exact new_block _)
  have PX := Lib.hid (show wb.heap[w.heap.size]? = some (.cells #[.int .i64 size, .int .i64 first, .slice a n c] 25 (0, 0)) by rw [hwb]; exact heap_alloc_new w _)
  obtain ⟨k0, k1, k2⟩ := cells3 PX.out
  go_upto_region 1 with fail
  rw [← hwb]
  clear hwb
  go_wp2_with fail
  refine (HV.out _ B0.out).mono ?_
  rintro e w1 ⟨rfl, hb⟩
  clear k0 k1 k2
  have B1 := Lib.hid (Buf.then_ B0.out hb)
  obtain ⟨k0, k1, k2⟩ := cells3 (hop3 hb PX.out)
  clear hb PX HV
  go_wp2_with (go_at_call 28; refine (in_no _ _ _ _ (by omega)).mono ?_; rintro e w2 ⟨rfl, m, rfl⟩)
  go_ret2
  exact ⟨rfl, Buf.below_drewN B1.out _⟩
set_option maxHeartbeats 4000000 in
set_option maxRecDepth 100000 in
theorem same_all {w : World} {v u : Value} {S : LS} (size first : Int) (h : Stw w v S) (k : Stw w u S) (h9 : S.length ≤ 1000) :
    Calls Try.prog 14 #[.agg #[.int .i64 size, .int .i64 first, v], .agg #[.int .i64 size, .int .i64 first, u]] w fun e w' => e = .returned (.bool true) ∧ Below w.heap.size w w' := by
  obtain ⟨ad, c, rfl, hc, hm, hf⟩ := h
  obtain ⟨ad', c', rfl, hc', hm', hf'⟩ := k
  obtain ⟨n, hn⟩ : ∃ n, n = S.length := ⟨_, rfl⟩
  rw [← hn] at hc hc' h9 ⊢
  replace hn := Lib.hid hn
  have F := Lib.hid hf
  have F' := Lib.hid hf'
  clear hf hf' hm hm'
  go_enter Try.func14, Try.ntmps14
  obtain ⟨wb, hwb⟩ : ∃ wb, wb = (w.alloc (.cells #[.int .i64 size, .int .i64 first, .slice ad n c] 25)).alloc (.cells #[.int .i64 size, .int .i64 first, .slice ad' n c'] 25) := ⟨_, rfl⟩
  have B0 := Lib.hid (show Below w.heap.size w wb by rw [hwb]; exact Buf.then_ (new_block _) (new_block _))
  have PX := Lib.hid (show wb.heap[w.heap.size]? = some (.cells #[.int .i64 size, .int .i64 first, .slice ad n c] 25 (0, 0)) by rw [hwb]; exact hop3 (new_block _) (heap_alloc_new w _))
  have PY := Lib.hid (show wb.heap[w.heap.size + 1]? = some (.cells #[.int .i64 size, .int .i64 first, .slice ad' n c'] 25 (0, 0)) by
    have e : (w.alloc (.cells #[.int .i64 size, .int .i64 first, .slice ad n c] 25)).heap.size = w.heap.size + 1 := by simp
    rw [hwb, ← e]; exact heap_alloc_new _ _)
  obtain ⟨k0, k1, k2⟩ := cells3 PX.out
  obtain ⟨k3, k4, k5⟩ := cells3 PY.out
  go_upto_region 1 with fail
  rw [← hwb]
  clear hwb
  have e1 : (size != size) = false := by simp
  have e2 : (first != first) = false := by simp
  have e3 : ((n : Int) != (n : Int)) = false := by simp
  go_wp2_with fail
  clear k0 k1 k2 k3 k4 k5
  go_loopw [5] (fun i wr => ∃ k : Nat, k ≤ n ∧ i = .int .i64 k ∧ Hid (Below wb.heap.size wb wr)) (fun i _ => n - (intOf i).toNat)
  case atStart => exact ⟨0, Nat.zero_le _, rfl, Lib.hid (Below.refl _ _)⟩
  case round =>
    obtain ⟨k, hk, rfl, HB⟩ := hrel
    obtain ⟨k0, k1, k2⟩ := cells3 (hop3 HB.out PX.out)
    obtain ⟨k3, k4, k5⟩ := cells3 (hop3 HB.out PY.out)
    by_cases hlt : k < n
    · obtain ⟨s, hs⟩ : ∃ s, S[k]? = some s := ⟨S[k]'(by rw [← hn.out]; exact hlt), List.getElem?_eq_getElem _⟩
      obtain ⟨g, o, rfl, hg, q0⟩ := F.out k s hs
      obtain ⟨g', o', rfl, hg', q1⟩ := F'.out k s hs
      have r0 := ((Buf.then_ B0.out HB.out).cell (p := ⟨g, _, none⟩) hg).trans q0
      have r1 := ((Buf.then_ B0.out HB.out).cell (p := ⟨g', _, none⟩) hg').trans q1
      have b1 : (k : Int) < n := by omega
      clear q0 q1 hs
      go_wp2_with fail
      go_quiet (fail)
      go_wp2_with fail
      go_roundw
      case rel => exact ⟨k + 1, by omega, by go_num, Lib.hid (Buf.below_drewN HB.out _)⟩
      case measure => simp [intOf]; omega
    · obtain rfl : k = n := by omega
      go_wp2_with fail
      go_ret
      exact ⟨rfl, Buf.then_ B0.out HB.out⟩
/-- Push. -/
structure PusR (size first : Int) (S : LS) (data : ByteArray) (size' first' : Int) (S' : LS) (q er : Int) : Prop where
  inv : ¬ OkS size first S → size' = 0 ∧ first' = 0 ∧ S' = [] ∧ q = 0 ∧ er = 1
  lim : OkS size first S → first + S.length = 1073741825 → size' = 0 ∧ first' = 0 ∧ S' = [] ∧ q = 0 ∧ er = 8
  ok : OkS size first S → first + S.length < 1073741825 → size' = size ∧ q = first + S.length ∧ er = 0 ∧ (((S.length : Int) + 1 ≤ size ∧ first' = first ∧ S' = S ++ [data]) ∨ ((S.length : Int) = size ∧ first' = first + 1 ∧ S' = (S ++ [data]).drop 1))
theorem PusR.unique {size first : Int} {S : LS} {data : ByteArray} {s1 f1 q1 e1 s2 f2 q2 e2 : Int} {S1 S2 : LS} (h : PusR size first S data s1 f1 S1 q1 e1) (k : PusR size first S data s2 f2 S2 q2 e2) : s1 = s2 ∧ f1 = f2 ∧ S1 = S2 ∧ q1 = q2 ∧ e1 = e2 := by
  by_cases c : OkS size first S
  · have hb := c.2.2.2.2.1
    by_cases e : first + S.length = 1073741825
    · obtain ⟨a1, a2, a3, a4, a5⟩ := h.lim c e
      obtain ⟨b1, b2, b3, b4, b5⟩ := k.lim c e
      subst a1 a2 a3 a4 a5 b1 b2 b3 b4 b5
      exact ⟨rfl, rfl, rfl, rfl, rfl⟩
    · obtain ⟨a1, a2, a3, a4⟩ := h.ok c (by omega)
      obtain ⟨b1, b2, b3, b4⟩ := k.ok c (by omega)
      rcases a4 with ⟨x1, x2, x3⟩ | ⟨x1, x2, x3⟩ <;> rcases b4 with ⟨y1, y2, y3⟩ | ⟨y1, y2, y3⟩
      · exact ⟨by omega, by omega, by rw [x3, y3], by omega, by omega⟩
      · omega
      · omega
      · exact ⟨by omega, by omega, by rw [x3, y3], by omega, by omega⟩
  · obtain ⟨a1, a2, a3, a4, a5⟩ := h.inv c
    obtain ⟨b1, b2, b3, b4, b5⟩ := k.inv c
    subst a1 a2 a3 a4 a5 b1 b2 b3 b4 b5
    exact ⟨rfl, rfl, rfl, rfl, rfl⟩
theorem PusR.len {size first : Int} {S : LS} {data : ByteArray} {s1 f1 q1 e1 : Int} {S1 : LS} (h : PusR size first S data s1 f1 S1 q1 e1) : S1.length ≤ S.length + 1 := by
  by_cases c : OkS size first S
  · have hb := c.2.2.2.2.1
    by_cases e : first + S.length = 1073741825
    · obtain ⟨_, _, a3, _⟩ := h.lim c e
      rw [a3]; simp
    · obtain ⟨_, _, _, a4⟩ := h.ok c (by omega)
      rcases a4 with ⟨_, _, x3⟩ | ⟨_, _, x3⟩ <;> rw [x3] <;> simp
  · obtain ⟨_, _, a3, _⟩ := h.inv c
    rw [a3]; simp
/-- Answer. -/
structure AnsR (size first : Int) (S : LS) (L : LP) (most : Int) (out : List Int) (er : Int) : Prop where
  inv : ¬ OkS size first S → out = [] ∧ er = 1
  rng : OkS size first S → ¬ (0 ≤ most ∧ most ≤ 256) → out = [] ∧ er = 2
  ok : OkS size first S → 0 ≤ most → most ≤ 256 → out = (filt L first S.length).take most.toNat ∧ er = 0
theorem AnsR.unique {size first most : Int} {S : LS} {L : LP} {o1 o2 : List Int} {e1 e2 : Int} (h : AnsR size first S L most o1 e1) (k : AnsR size first S L most o2 e2) : o1 = o2 ∧ e1 = e2 := by
  by_cases c : OkS size first S
  · by_cases e : 0 ≤ most ∧ most ≤ 256
    · obtain ⟨a1, a2⟩ := h.ok c e.1 e.2
      obtain ⟨b1, b2⟩ := k.ok c e.1 e.2
      exact ⟨a1.trans b1.symm, a2.trans b2.symm⟩
    · obtain ⟨a1, a2⟩ := h.rng c e
      obtain ⟨b1, b2⟩ := k.rng c e
      exact ⟨a1.trans b1.symm, a2.trans b2.symm⟩
  · obtain ⟨a1, a2⟩ := h.inv c
    obtain ⟨b1, b2⟩ := k.inv c
    exact ⟨a1.trans b1.symm, a2.trans b2.symm⟩
theorem AnsR.len {size first most : Int} {S : LS} {L : LP} {o1 : List Int} {e1 : Int} (h : AnsR size first S L most o1 e1) : o1.length ≤ 256 := by
  by_cases c : OkS size first S
  · by_cases e : 0 ≤ most ∧ most ≤ 256
    · obtain ⟨a1, _⟩ := h.ok c e.1 e.2
      rw [a1, List.length_take]; omega
    · rw [(h.rng c e).1]; simp
  · rw [(h.inv c).1]; simp
theorem push_all {w : World} {v : Value} {S : LS} (size first : Int) (data : ByteArray) (h : Stw w v S) (h9 : S.length ≤ 1000) (hd : data.size ≤ 4064) :
    Calls Try.prog 12 #[.agg #[.int .i64 size, .int .i64 first, v], .string data] w fun e w' => (∃ s1 f1 u q er S1, e = .returned (.tuple #[.agg #[.int .i64 s1, .int .i64 f1, u], .int .i64 q, .int .i64 er]) ∧ PusR size first S data s1 f1 S1 q er ∧ Stw w' u S1) ∧ Below w.heap.size w w' := by
  obtain ⟨a, n, c, rfl⟩ := h.form
  have hn := (Stw.len h).1
  by_cases ok : OkS size first S
  · have hb := ok.2.2.2.2.1
    by_cases e : first + (n : Int) = 1073741825
    · refine (push_lim size first data h (by omega) ok hd e).mono fun e w' hh => ⟨?_, hh.2⟩
      exact ⟨_, _, _, _, _, [], hh.1, ⟨fun x => absurd ok x, fun _ _ => ⟨rfl, rfl, rfl, rfl, rfl⟩, fun _ x => by omega⟩, Stw.nil _⟩
    · refine (push_ok size first data ok (by omega) hd h).mono fun e w' hh => ⟨?_, hh.2⟩
      obtain ⟨⟨a', n', cap', ms', f', he, hr, hc⟩, _⟩ := hh
      exact ⟨_, _, _, _, _, ms', he, ⟨fun x => absurd ok x, fun _ x => by omega, fun _ _ => ⟨rfl, by rw [hn], rfl, by rw [← hn]; exact hc⟩⟩, stw_of_row hr⟩
  · refine (push_inv size first data h (by omega) ok).mono fun e w' hh => ⟨?_, hh.2⟩
    exact ⟨_, _, _, _, _, [], hh.1, ⟨fun _ => ⟨rfl, rfl, rfl, rfl, rfl⟩, fun x => absurd x ok, fun x => absurd x ok⟩, Stw.nil _⟩
theorem answer_all {w : World} {v vl : Value} {S : LS} {L : LP} (size first most : Int) (h : Stw w v S) (h9 : S.length ≤ 1000) (hs : Spw w vl L) (hl9 : L.length ≤ 1000) :
    Calls Try.prog 22 #[.agg #[.int .i64 size, .int .i64 first, v], vl, .int .i64 most] w fun e w' => (∃ rv er out, e = .returned (.tuple #[rv, .int .i64 er]) ∧ AnsR size first S L most out er ∧ OwnI w' w.heap.size rv out) ∧ Below w.heap.size w w' := by
  obtain ⟨a, n, c, rfl⟩ := h.form
  have hn := (Stw.len h).1
  by_cases ok : OkS size first S
  · by_cases ee : 0 ≤ most ∧ most ≤ 256
    · obtain ⟨m, rfl⟩ : ∃ m : Nat, most = m := ⟨most.toNat, by omega⟩
      refine (answer_ok size first ok h hs hl9 m (by omega)).mono fun e w' hh => ⟨?_, hh.2⟩
      obtain ⟨⟨rv, he, ho⟩, _⟩ := hh
      exact ⟨rv, _, _, he, ⟨fun x => absurd ok x, fun _ x => absurd ee x, fun _ _ _ => ⟨by rw [hn]; simp, rfl⟩⟩, ho⟩
    · refine (answer_rng size first vl most h (by omega) ok ee).mono fun e w' hh => ⟨?_, hh.2⟩
      exact ⟨_, _, [], hh.1, ⟨fun x => absurd ok x, fun _ _ => ⟨rfl, rfl⟩, fun _ a b => absurd ⟨a, b⟩ ee⟩, World.ownsRow_nil _ _ _ _⟩
  · refine (answer_inv size first vl most h (by omega) ok).mono fun e w' hh => ⟨?_, hh.2⟩
    exact ⟨_, _, [], hh.1, ⟨fun _ => ⟨rfl, rfl⟩, fun x => absurd x ok, fun x => absurd x ok⟩, World.ownsRow_nil _ _ _ _⟩
theorem refpush_all {w : World} {v : Value} {S : LS} (size first : Int) (data : ByteArray) (h : Stw w v S) (h9 : S.length ≤ 1000) (hd : data.size ≤ 4064) :
    Calls Try.prog 13 #[.agg #[.int .i64 size, .int .i64 first, v], .string data] w fun e w' => (∃ s1 f1 u q er S1, e = .returned (.tuple #[.agg #[.int .i64 s1, .int .i64 f1, u], .int .i64 q, .int .i64 er]) ∧ PusR size first S data s1 f1 S1 q er ∧ Stw w' u S1) ∧ Below w.heap.size w w' := by
  obtain ⟨a, n, c, rfl⟩ := h.form
  have hn := (Stw.len h).1
  by_cases ok : OkS size first S
  · have hb := ok.2.2.2.2.1
    by_cases e : first + (n : Int) = 1073741825
    · refine (refpush_lim size first data h (by omega) ok hd e).mono fun e w' hh => ⟨?_, hh.2⟩
      exact ⟨_, _, _, _, _, [], hh.1, ⟨fun x => absurd ok x, fun _ _ => ⟨rfl, rfl, rfl, rfl, rfl⟩, fun _ x => by omega⟩, Stw.nil _⟩
    · refine (refpush_ok size first data ok (by omega) hd h).mono fun e w' hh => ⟨?_, hh.2⟩
      obtain ⟨⟨a', n', cap', ms', f', he, hr, hc⟩, _⟩ := hh
      exact ⟨_, _, _, _, _, ms', he, ⟨fun x => absurd ok x, fun _ x => by omega, fun _ _ => ⟨rfl, by rw [hn], rfl, by rw [← hn]; exact hc⟩⟩, stw_of_row hr⟩
  · refine (refpush_inv size first data h (by omega) ok).mono fun e w' hh => ⟨?_, hh.2⟩
    exact ⟨_, _, _, _, _, [], hh.1, ⟨fun _ => ⟨rfl, rfl, rfl, rfl, rfl⟩, fun x => absurd x ok, fun x => absurd x ok⟩, Stw.nil _⟩
theorem refanswer_all {w : World} {v vl : Value} {S : LS} {L : LP} (size first most : Int) (h : Stw w v S) (h9 : S.length ≤ 1000) (hs : Spw w vl L) (hl9 : L.length ≤ 1000) :
    Calls Try.prog 23 #[.agg #[.int .i64 size, .int .i64 first, v], vl, .int .i64 most] w fun e w' => (∃ rv er out, e = .returned (.tuple #[rv, .int .i64 er]) ∧ AnsR size first S L most out er ∧ OwnI w' w.heap.size rv out) ∧ Below w.heap.size w w' := by
  obtain ⟨a, n, c, rfl⟩ := h.form
  have hn := (Stw.len h).1
  by_cases ok : OkS size first S
  · by_cases ee : 0 ≤ most ∧ most ≤ 256
    · obtain ⟨m, rfl⟩ : ∃ m : Nat, most = m := ⟨most.toNat, by omega⟩
      refine (refanswer_ok size first ok h hs hl9 m (by omega)).mono fun e w' hh => ⟨?_, hh.2⟩
      obtain ⟨⟨rv, he, ho⟩, _⟩ := hh
      exact ⟨rv, _, _, he, ⟨fun x => absurd ok x, fun _ x => absurd ee x, fun _ _ _ => ⟨by rw [hn]; simp, rfl⟩⟩, ho⟩
    · refine (refanswer_rng size first vl most h (by omega) ok ee).mono fun e w' hh => ⟨?_, hh.2⟩
      exact ⟨_, _, [], hh.1, ⟨fun x => absurd ok x, fun _ _ => ⟨rfl, rfl⟩, fun _ a b => absurd ⟨a, b⟩ ee⟩, World.ownsRow_nil _ _ _ _⟩
  · refine (refanswer_inv size first vl most h (by omega) ok).mono fun e w' hh => ⟨?_, hh.2⟩
    exact ⟨_, _, [], hh.1, ⟨fun _ => ⟨rfl, rfl⟩, fun x => absurd x ok, fun x => absurd x ok⟩, World.ownsRow_nil _ _ _ _⟩
end Sx
end Go.Proofs.Ytganalieljmkmaa
