/- The walk of CrcExact. -/
import Derived.Test.YtmkcheiidhppbabRef06
import Derived.Deep.MidRow
namespace Go.Proofs.Ytmkcheiidhppbab
open Go.RowKit Crc
namespace Any06
def updV (sum : Int) (s : ByteArray) : Int := if sum < 0 ∨ 4294967295 < sum then 0 else (Cm.updOf sum.toNat s.data.toList : Nat)
def flC (p n m : Int) : Bool := decide (n < 1 ∨ 32 < n ∨ p < 0 ∨ m < 0 ∨ 2 ^ n.toNat ≤ m)
def flS (s : ByteArray) (p n m : Int) : ByteArray := if flC p n m then ByteArray.empty else if 8 * (s.size : Int) - n < p then ByteArray.empty else flipS s p.toNat m.toNat n.toNat
def flE (s : ByteArray) (p n m : Int) : Int := if flC p n m then 2 else if 8 * (s.size : Int) - n < p then 4 else 0
theorem dr {w w' : World} (h : ∃ m, w' = w.drewN m) : Below w.heap.size w w' := by
  obtain ⟨m, rfl⟩ := h
  exact Buf.below_drewN (Below.refl _ _) m
theorem cupd (sum : Int) (s : ByteArray) (w : World) (hs : s.size ≤ 1000000) :
    Calls Try.prog 17 #[.int .i64 sum, .string s] w fun e w' => e = .returned (.int .i64 (updV sum s)) ∧ Below w.heap.size w w' := by
  unfold updV
  by_cases h : sum < 0 ∨ 4294967295 < sum
  · rw [if_pos h]; exact Crc.update_bad sum s w h
  · rw [if_neg h]
    have hx : ((sum.toNat : Nat) : Int) = sum := Int.toNat_of_nonneg (by omega)
    have := Crc.update_any sum.toNat s w (by omega) hs
    rw [hx] at this
    exact this
theorem cflip (s : ByteArray) (p n m : Int) (w : World) (hs : s.size ≤ 1000000) :
    Calls Try.prog 19 #[.string s, .int .i64 p, .int .i64 n, .int .i64 m] w fun e w' => e = .returned (.tuple #[.string (flS s p n m), .int .i64 (flE s p n m)]) ∧ Below w.heap.size w w' := by
  unfold flS flE flC
  by_cases h : n < 1 ∨ 32 < n ∨ p < 0 ∨ m < 0 ∨ 2 ^ n.toNat ≤ m
  · rw [decide_eq_true h, if_pos rfl, if_pos rfl]
    exact (Crc.flip_rng s p n m w h).mono fun _ _ ⟨a, b⟩ => ⟨a, dr b⟩
  · simp only [decide_eq_false h, Bool.false_eq_true, if_false]
    by_cases h2 : 8 * (s.size : Int) - n < p
    · rw [if_pos h2, if_pos h2]
      exact (Crc.flip_trunc s p n m w hs (by omega) (by omega) (by omega) (by omega) (by omega) h2).mono fun _ _ ⟨a, b⟩ => ⟨a, dr b⟩
    · rw [if_neg h2, if_neg h2]
      have hp : ((p.toNat : Nat) : Int) = p := Int.toNat_of_nonneg (by omega)
      have hn : ((n.toNat : Nat) : Int) = n := Int.toNat_of_nonneg (by omega)
      have hm : ((m.toNat : Nat) : Int) = m := Int.toNat_of_nonneg (by omega)
      have := Crc.flip_ok s p.toNat n.toNat m.toNat w hs (by omega) (by omega) (by rw [hm]; omega) (by omega)
      rw [hp, hn, hm] at this
      exact this
theorem rupd (sum : Int) (s : ByteArray) (w : World) (hs : s.size ≤ 1000000) :
    Calls Try.prog 18 #[.int .i64 sum, .string s] w fun e w' => e = .returned (.int .i64 (updV sum s)) ∧ Below w.heap.size w w' := by
  unfold updV
  by_cases h : sum < 0 ∨ 4294967295 < sum
  · rw [if_pos h]; exact Ref06.update_bad sum s w h
  · rw [if_neg h]
    have hx : ((sum.toNat : Nat) : Int) = sum := Int.toNat_of_nonneg (by omega)
    have := Ref06.update_any sum.toNat s w (by omega) hs
    rw [hx] at this
    exact this
theorem rflip (s : ByteArray) (p n m : Int) (w : World) (hs : s.size ≤ 1000000) :
    Calls Try.prog 20 #[.string s, .int .i64 p, .int .i64 n, .int .i64 m] w fun e w' => e = .returned (.tuple #[.string (flS s p n m), .int .i64 (flE s p n m)]) ∧ Below w.heap.size w w' := by
  unfold flS flE flC
  by_cases h : n < 1 ∨ 32 < n ∨ p < 0 ∨ m < 0 ∨ 2 ^ n.toNat ≤ m
  · rw [decide_eq_true h, if_pos rfl, if_pos rfl]
    exact (Ref06.flip_rng s p n m w h).mono fun _ _ ⟨a, b⟩ => ⟨a, dr b⟩
  · simp only [decide_eq_false h, Bool.false_eq_true, if_false]
    by_cases h2 : 8 * (s.size : Int) - n < p
    · rw [if_pos h2, if_pos h2]
      exact (Ref06.flip_trunc s p n m w hs (by omega) (by omega) (by omega) (by omega) (by omega) h2).mono fun _ _ ⟨a, b⟩ => ⟨a, dr b⟩
    · rw [if_neg h2, if_neg h2]
      have hp : ((p.toNat : Nat) : Int) = p := Int.toNat_of_nonneg (by omega)
      have hn : ((n.toNat : Nat) : Int) = n := Int.toNat_of_nonneg (by omega)
      have hm : ((m.toNat : Nat) : Int) = m := Int.toNat_of_nonneg (by omega)
      have := Ref06.flip_ok s p.toNat n.toNat m.toNat w hs (by omega) (by omega) (by rw [hm]; omega) (by omega)
      rw [hp, hn, hm] at this
      exact this
end Any06
namespace Laws
theorem lit_cells {W : World} {C : Array Value} {e : TypeId} (hC : ∀ k, k < C.size → ∃ X : Int, C[k]? = some (.int .i64 X)) {wr : World} (hb : Below (W.alloc (.cells C e)).heap.size (W.alloc (.cells C e)) wr) (k : Nat) (hk : k < C.size) :
    ∃ X : Int, wr.cell? ⟨W.heap.size, k, none⟩ = some (.int .i64 X) := by
  obtain ⟨X, hX⟩ := hC k hk
  refine ⟨X, ?_⟩
  rw [hb.cell (p := ⟨W.heap.size, k, none⟩) (by simp)]
  exact (World.cell?_alloc_mark W C e (0, 0) k).trans hX
theorem ints2 (a b : Int) : ∀ k, k < (#[Value.int .i64 a, .int .i64 b] : Array Value).size → ∃ X : Int, (#[Value.int .i64 a, .int .i64 b] : Array Value)[k]? = some (.int .i64 X)
  | 0, _ => ⟨a, rfl⟩
  | 1, _ => ⟨b, rfl⟩
  | k + 2, h => by simp at h; omega
theorem ints6 (a b c d e f : Int) : ∀ k, k < (#[Value.int .i64 a, .int .i64 b, .int .i64 c, .int .i64 d, .int .i64 e, .int .i64 f] : Array Value).size → ∃ X : Int, (#[Value.int .i64 a, .int .i64 b, .int .i64 c, .int .i64 d, .int .i64 e, .int .i64 f] : Array Value)[k]? = some (.int .i64 X)
  | 0, _ => ⟨a, rfl⟩
  | 1, _ => ⟨b, rfl⟩
  | 2, _ => ⟨c, rfl⟩
  | 3, _ => ⟨d, rfl⟩
  | 4, _ => ⟨e, rfl⟩
  | 5, _ => ⟨f, rfl⟩
  | k + 6, h => by simp at h; omega
theorem range3 {w : World} {g o : Nat} {a b c : Value} (h0 : w.cell? ⟨g, o, none⟩ = some a) (h1 : w.cell? ⟨g, o + 1, none⟩ = some b) (h2 : w.cell? ⟨g, o + 2, none⟩ = some c) : w.rangeAt g o [a, b, c]
  | 0, v, hv => by simp at hv; subst hv; exact h0
  | 1, v, hv => by simp at hv; subst hv; exact h1
  | 2, v, hv => by simp at hv; subst hv; exact h2
  | j + 3, v, hv => by simp at hv
set_option maxHeartbeats 1600000 in
set_option maxRecDepth 100000 in
theorem crcExact_walk (a0 a1 : ByteArray) (a2 a3 a4 a5 a6 : Int) (w0 : a0.size ≤ 140737488351232) (w1 : a1.size ≤ 140737488351232) (_w2 : (Lit.int .i64 a2).wf = true) (_w3 : (Lit.int .i64 a3).wf = true) (_w4 : (Lit.int .i64 a4).wf = true) (_w5 : (Lit.int .i64 a5).wf = true) (w6 : (Lit.int .u32 a6).wf = true) (w : World) :
    Calls Try.prog 5 #[.string a0, .string a1, .int .i64 a2, .int .i64 a3, .int .i64 a4, .int .i64 a5, .int .u32 a6] w fun e w' => e = .returned (.bool true) ∧ Below w.heap.size w w' := by
  obtain ⟨u6, u6'⟩ := Ma.wf_u32 w6
  clear w6 _w2 _w3 _w4 _w5
  by_cases hl : 200 < a0.size
  · go_enter Try.func5, Try.ntmps5
    go_wp2_with (go_at_call 16; refine (sane_any _).mono ?_; rintro e w1 ⟨rfl, hb⟩)
    go_ret
    exact ⟨rfl, hb⟩
  · by_cases hl1 : 200 < a1.size
    · go_enter Try.func5, Try.ntmps5
      go_wp2_with (go_at_call 16; refine (sane_any _).mono ?_; rintro e w1 ⟨rfl, hb⟩)
      go_ret
      exact ⟨rfl, hb⟩
    · have hs : a0.size ≤ 1000000 := by omega
      have hs1 : a1.size ≤ 1000000 := by omega
      have hs2 : (a0 ++ a1).size ≤ 1000000 := by simp; omega
      have hd : decide (200 < (a0.size : Int)) = false := by simp; omega
      have hd1 : decide (200 < (a1.size : Int)) = false := by simp; omega
      clear w0 w1
      go_enter Try.func5, Try.ntmps5
      go_wp2_with fail
      go_loopw [37] (fun i wr => ∃ k : Nat, k ≤ 2 ∧ i = .int .i64 k ∧ Below (w.heap.size + 1) (w.alloc (.cells #[.int .i64 a2, .int .i64 a6] 3)) wr) (fun i _ => (2 - intOf i).toNat)
      case atStart => exact ⟨0, by omega, rfl, Below.refl _ _⟩
      case round =>
        obtain ⟨k, hk, rfl, hbel⟩ := hrel
        have hbw : Below w.heap.size w wr := ((Below.refl _ _).alloc (Nat.le_refl _) _).trans (hbel.mono (by omega))
        by_cases hlt : k < 2
        · obtain ⟨X, hcell⟩ := lit_cells (ints2 a2 a6) (W := w) (wr := wr) (by simpa using hbel) k hlt
          go_wp2_with (first | (go_at_call 17; refine (Any06.cupd _ _ _ hs1).mono ?_; rintro e w1 ⟨rfl, hb⟩) | (go_at_call 18; refine (Any06.rupd _ _ _ hs1).mono ?_; rintro e w1 ⟨rfl, hb⟩))
          go_roundw
          case rel => exact ⟨k + 1, by omega, by go_num, hbel.trans (Below.mono (B := wr.heap.size) (by repeat (first | exact Below.refl _ _ | assumption | refine Buf.then_ ?_ (by assumption))) (by have := hbel.size; simp at this; omega))⟩
          case measure => simp [intOf]; omega
        · obtain rfl : k = 2 := by omega
          rw [show ((2 : Nat) : Int) = 2 from rfl]
          obtain ⟨wa, rfl⟩ : ∃ wa : World, wa = wr := ⟨_, rfl⟩
          go_wp2_with fail
          go_loopw [68] (fun i wr => ∃ k : Nat, k ≤ 2 ∧ i = .int .i64 k ∧ Below (wa.heap.size + 1) (wa.alloc (.cells #[.int .i64 a3, .int .i64 a4, .int .i64 a5, .int .i64 (a6 % 300), .int .i64 (1 + a6 / 1024 % 33), .int .i64 (a6 / 8 % 70)] 35)) wr) (fun i _ => (2 - intOf i).toNat)
          case atStart => exact ⟨0, by omega, rfl, Below.refl _ _⟩
          case round =>
            obtain ⟨k, hk2, rfl, hbel2⟩ := hrel
            by_cases hlt2 : k < 2
            · have hq := ints6 a3 a4 a5 (a6 % 300) (1 + a6 / 1024 % 33) (a6 / 8 % 70)
              obtain ⟨X0, h0⟩ := lit_cells hq (W := wa) (wr := wr) (by simpa using hbel2) (k * 3) (by simp; omega)
              obtain ⟨X1, h1⟩ := lit_cells hq (W := wa) (wr := wr) (by simpa using hbel2) (k * 3 + 1) (by simp; omega)
              obtain ⟨X2, h2⟩ := lit_cells hq (W := wa) (wr := wr) (by simpa using hbel2) (k * 3 + 2) (by simp; omega)
              have R := Lib.hid (range3 h0 h1 h2)
              clear h0 h1 h2 hq
              go_wp2_with (first | (refine wpList_load_mid rfl 35 _ rfl wa.heap.size (k * 3) rfl _ _ R.out Try.underlying35 rfl (by kernel_rfl) ?_) | (go_at_call 19; refine (Any06.cflip _ _ _ _ _ hs).mono ?_; rintro e w1 ⟨rfl, hb⟩; have c0 := hb.cell (p := ⟨wr.heap.size, 0, none⟩) (by simp); have c1 := hb.cell (p := ⟨wr.heap.size, 1, none⟩) (by simp); have c2 := hb.cell (p := ⟨wr.heap.size, 2, none⟩) (by simp)) | (go_at_call 20; refine (Any06.rflip _ _ _ _ _ hs).mono ?_; rintro e w2 ⟨rfl, hb2⟩))
              go_roundw
              case rel => exact ⟨k + 1, by omega, by go_num, hbel2.trans (Below.mono (B := wr.heap.size) (((Below.refl _ wr).alloc (Nat.le_refl _) _).trans (((hb.mono (by simp)).trans (hb2.mono (by have := hb.size; simp at this; omega))))) (by have := hbel2.size; simp at this; omega))⟩
              case measure => simp [intOf]; omega
            · obtain rfl : k = 2 := by omega
              have C1 := Lib.hid (fun w => check_any a0 w hs)
              have C2 := Lib.hid (fun w => check_any (a0 ++ a1) w hs2)
              have D1 := Lib.hid (fun w => Ref06.check_any a0 w hs)
              have D2 := Lib.hid (fun w => Ref06.check_any (a0 ++ a1) w hs2)
              go_wp2_with (first | (go_at_call 21; refine (sum_any _ _ hs).mono ?_; rintro e w1 ⟨rfl, hb⟩) | (go_at_call 22; refine (Ref06.sum_any _ _ hs).mono ?_; rintro e w1 ⟨rfl, hb⟩) | (go_at_call 23; refine (append_any _ _ hs).mono ?_; rintro e w1 ⟨rfl, hb⟩) | (go_at_call 24; refine (Ref06.append_any _ _ hs).mono ?_; rintro e w1 ⟨rfl, hb⟩) | (go_at_call 25; (first | (with_reducible refine (C1.out _).mono ?_) | (with_reducible refine (C2.out _).mono ?_)); rintro e w1 ⟨rfl, hb⟩) | (go_at_call 26; (first | (with_reducible refine (D1.out _).mono ?_) | (with_reducible refine (D2.out _).mono ?_)); rintro e w1 ⟨rfl, hb⟩) | (go_at_call 16; refine (sane_any _).mono ?_; rintro e w1 ⟨rfl, hb⟩))
              go_ret
              exact ⟨rfl, (hbw.trans (Below.mono (B := wa.heap.size) (((Below.refl _ wa).alloc (Nat.le_refl _) _).trans (hbel2.mono (by omega))) hbw.size)).trans (Below.mono (B := wr.heap.size) (by repeat (first | exact Below.refl _ _ | assumption | refine Buf.then_ ?_ (by assumption))) (by have := hbel2.size; have := hbw.size; simp at *; omega))⟩
end Laws
end Go.Proofs.Ytmkcheiidhppbab
