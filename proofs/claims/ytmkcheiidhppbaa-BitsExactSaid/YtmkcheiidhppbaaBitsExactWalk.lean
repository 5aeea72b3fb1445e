/- The walk of BitsExact. -/
import Derived.Test.YtmkcheiidhppbaaAny04
namespace Go.Proofs.Ytmkcheiidhppbaa
open Go.RowKit Bits
namespace Laws
/-- The cells of a slice literal of ints, in every later world. -/
theorem lit_cells {W : World} {C : Array Value} {e : TypeId} (hC : ∀ k, k < C.size → ∃ X : Int, C[k]? = some (.int .i64 X)) {wr : World} (hb : Below (W.alloc (.cells C e)).heap.size (W.alloc (.cells C e)) wr) (k : Nat) (hk : k < C.size) :
    ∃ X : Int, wr.cell? ⟨W.heap.size, k, none⟩ = some (.int .i64 X) := by
  obtain ⟨X, hX⟩ := hC k hk
  refine ⟨X, ?_⟩
  rw [hb.cell (p := ⟨W.heap.size, k, none⟩) (by simp)]
  exact (World.cell?_alloc_mark W C e (0, 0) k).trans hX
theorem ints3 (a b c : Int) : ∀ k, k < (#[Value.int .i64 a, .int .i64 b, .int .i64 c] : Array Value).size → ∃ X : Int, (#[Value.int .i64 a, .int .i64 b, .int .i64 c] : Array Value)[k]? = some (.int .i64 X)
  | 0, _ => ⟨a, rfl⟩
  | 1, _ => ⟨b, rfl⟩
  | 2, _ => ⟨c, rfl⟩
  | k + 3, h => by simp at h; omega
theorem ints4 (a b c d : Int) : ∀ k, k < (#[Value.int .i64 a, .int .i64 b, .int .i64 c, .int .i64 d] : Array Value).size → ∃ X : Int, (#[Value.int .i64 a, .int .i64 b, .int .i64 c, .int .i64 d] : Array Value)[k]? = some (.int .i64 X)
  | 0, _ => ⟨a, rfl⟩
  | 1, _ => ⟨b, rfl⟩
  | 2, _ => ⟨c, rfl⟩
  | 3, _ => ⟨d, rfl⟩
  | k + 4, h => by simp at h; omega
theorem ints2 (a b : Int) : ∀ k, k < (#[Value.int .i64 a, .int .i64 b] : Array Value).size → ∃ X : Int, (#[Value.int .i64 a, .int .i64 b] : Array Value)[k]? = some (.int .i64 X)
  | 0, _ => ⟨a, rfl⟩
  | 1, _ => ⟨b, rfl⟩
  | k + 2, h => by simp at h; omega
set_option maxHeartbeats 2000000 in
set_option maxRecDepth 100000 in
theorem bitsExact_walk (a0 : ByteArray) (a1 a2 a3 a4 a5 a6 : Int) (w0 : a0.size ≤ 140737488351232) (_w1 : (Lit.int .i64 a1).wf = true) (_w2 : (Lit.int .i64 a2).wf = true) (_w3 : (Lit.int .i64 a3).wf = true) (_w4 : (Lit.int .i64 a4).wf = true) (_w5 : (Lit.int .i64 a5).wf = true) (w6 : (Lit.int .u32 a6).wf = true) (w : World) :
    Calls Try.prog 13 #[.string a0, .int .i64 a1, .int .i64 a2, .int .i64 a3, .int .i64 a4, .int .i64 a5, .int .u32 a6] w fun e w' => e = .returned (.bool true) ∧ Below w.heap.size w w' := by
  obtain ⟨u6, u6'⟩ := Ma.wf_u32 w6
  clear w6 _w1 _w2 _w3 _w4 _w5
  by_cases hl : 200 < a0.size
  · go_enter Try.func13, Try.ntmps13
    go_wp2_with (go_at_call 61; refine (sane_any _).mono ?_; rintro e w1 ⟨rfl, hb⟩)
    go_ret
    exact ⟨rfl, hb⟩
  · have hs : a0.size ≤ 1000000 := by omega
    have hd : decide (200 < (a0.size : Int)) = false := by simp; omega
    clear w0
    go_enter Try.func13, Try.ntmps13
    go_wp2_with fail
    go_loopw [70] (fun i wr => ∃ k : Nat, k ≤ 3 ∧ i = .int .i64 k ∧ Below (w.heap.size + 1) (w.alloc (.cells #[.int .i64 a2, .int .i64 (a6 % 9), .int .i64 (a6 / 256 % 58 - 1)] 3)) wr) (fun i _ => (3 - intOf i).toNat)
    case atStart => exact ⟨0, by omega, rfl, Below.refl _ _⟩
    case round =>
      obtain ⟨k, hk, rfl, hbel⟩ := hrel
      have hbw : Below w.heap.size w wr := ((Below.refl _ _).alloc (Nat.le_refl _) _).trans (hbel.mono (by omega))
      by_cases hlt : k < 3
      · obtain ⟨wo, rfl⟩ : ∃ wo : World, wo = wr := ⟨_, rfl⟩
        obtain ⟨X, hcell⟩ := lit_cells (ints3 a2 (a6 % 9) (a6 / 256 % 58 - 1)) (W := w) (wr := wo) (by simpa using hbel) k hlt
        have hk3 : decide ((k : Int) < 3) = true := by simp; omega
        go_wp2_with fail
        go_loopw [85] (fun i wq => ∃ j : Nat, j ≤ 4 ∧ i = .int .i64 j ∧ Below (wo.heap.size + 1) (wo.alloc (.cells #[.int .i64 a1, .int .i64 a6, .int .i64 (-(a6 % 70000)), .int .i64 (a1 / 256)] 3)) wq) (fun i _ => (4 - intOf i).toNat)
        case atStart => exact ⟨0, by omega, rfl, Below.refl _ _⟩
        case round =>
          obtain ⟨j, hj, rfl, hbq⟩ := hrel
          by_cases hlt4 : j < 4
          · obtain ⟨Y, hcellY⟩ := lit_cells (ints4 a1 a6 (-(a6 % 70000)) (a1 / 256)) (W := wo) (wr := wr) (by simpa using hbq) j hlt4
            go_wp2_with (first | (go_at_call 62; refine (Any04.bput a0 _ _ _ hs).mono ?_; rintro e w1 ⟨rfl, hb⟩) | (go_at_call 63; refine (Any04.rput a0 _ _ _ hs).mono ?_; rintro e w1 ⟨rfl, hb⟩) | (go_at_call 64; refine (Any04.bget a0 _ _ _ hs).mono ?_; rintro e w1 ⟨rfl, hb⟩) | (go_at_call 65; refine (Any04.rget a0 _ _ _ hs).mono ?_; rintro e w1 ⟨rfl, hb⟩) | (go_at_call 70; refine (Any04.bfits _ _ _).mono ?_; rintro e w1 ⟨rfl, hb⟩) | (go_at_call 71; refine (Any04.rfits _ _ _).mono ?_; rintro e w1 ⟨rfl, hb⟩) | (go_at_call 66; refine (Any04.bwrap _ _ _).mono ?_; rintro e w1 ⟨rfl, hb⟩) | (go_at_call 67; refine (Any04.rwrap _ _ _).mono ?_; rintro e w1 ⟨rfl, hb⟩) | (go_at_call 68; refine (Any04.bsign _ _ _).mono ?_; rintro e w1 ⟨rfl, hb⟩) | (go_at_call 69; refine (Any04.rsign _ _ _).mono ?_; rintro e w1 ⟨rfl, hb⟩))
            go_roundw
            case rel => exact ⟨j + 1, by omega, by go_num, hbq.trans (Below.mono (B := wr.heap.size) (by repeat (first | exact Below.refl _ _ | assumption | refine Buf.then_ ?_ (by assumption))) (by have := hbq.size; simp at this; omega))⟩
            case measure => simp [intOf]; omega
          · obtain rfl : j = 4 := by omega
            go_wp2_with (first | (go_at_call 62; refine (Any04.bput a0 _ _ _ hs).mono ?_; rintro e w1 ⟨rfl, hb⟩) | (go_at_call 63; refine (Any04.rput a0 _ _ _ hs).mono ?_; rintro e w1 ⟨rfl, hb⟩) | (go_at_call 64; refine (Any04.bget a0 _ _ _ hs).mono ?_; rintro e w1 ⟨rfl, hb⟩) | (go_at_call 65; refine (Any04.rget a0 _ _ _ hs).mono ?_; rintro e w1 ⟨rfl, hb⟩) | (go_at_call 70; refine (Any04.bfits _ _ _).mono ?_; rintro e w1 ⟨rfl, hb⟩) | (go_at_call 71; refine (Any04.rfits _ _ _).mono ?_; rintro e w1 ⟨rfl, hb⟩) | (go_at_call 66; refine (Any04.bwrap _ _ _).mono ?_; rintro e w1 ⟨rfl, hb⟩) | (go_at_call 67; refine (Any04.rwrap _ _ _).mono ?_; rintro e w1 ⟨rfl, hb⟩) | (go_at_call 68; refine (Any04.bsign _ _ _).mono ?_; rintro e w1 ⟨rfl, hb⟩) | (go_at_call 69; refine (Any04.rsign _ _ _).mono ?_; rintro e w1 ⟨rfl, hb⟩))
            go_roundw
            case rel => exact ⟨k + 1, by omega, by go_num, hbel.trans (Below.mono (B := wo.heap.size) (((Below.refl _ wo).alloc (Nat.le_refl _) _).trans ((hbq.mono (by omega)).trans (Below.mono (B := wr.heap.size) (by repeat (first | exact Below.refl _ _ | assumption | refine Buf.then_ ?_ (by assumption))) (by have := hbq.size; simp at this; omega)))) (by have := hbel.size; simp at this; omega))⟩
            case measure => simp [intOf]; omega
      · obtain rfl : k = 3 := by omega
        rw [show ((3 : Nat) : Int) = 3 from rfl]
        obtain ⟨wa, rfl⟩ : ∃ wa : World, wa = wr := ⟨_, rfl⟩
        go_wp2_with fail
        go_loopw [217] (fun i wr => ∃ k : Nat, k ≤ 2 ∧ i = .int .i64 k ∧ Below (wa.heap.size + 1) (wa.alloc (.cells #[.int .i64 a1, .int .i64 a6] 3)) wr) (fun i _ => (2 - intOf i).toNat)
        case atStart => exact ⟨0, by omega, rfl, Below.refl _ _⟩
        case round =>
          obtain ⟨k, hk2, rfl, hbel2⟩ := hrel
          by_cases hlt2 : k < 2
          · obtain ⟨wo, rfl⟩ : ∃ wo : World, wo = wr := ⟨_, rfl⟩
            obtain ⟨X, hcell⟩ := lit_cells (ints2 a1 a6) (W := wa) (wr := wo) (by simpa using hbel2) k hlt2
            have hk3 : decide ((k : Int) < 2) = true := by simp; omega
            go_wp2_with fail
            go_loopw [227] (fun i wr => ∃ j : Nat, j ≤ 2 ∧ i = .int .i64 j ∧ Below (wo.heap.size + 1) (wo.alloc (.cells #[.int .i64 a4, .int .i64 (a6 % 17)] 3)) wr) (fun i _ => (2 - intOf i).toNat)
            case atStart => exact ⟨0, by omega, rfl, Below.refl _ _⟩
            case round =>
              obtain ⟨j, hj, rfl, hbq⟩ := hrel
              by_cases hlt4 : j < 2
              · obtain ⟨Y, hcellY⟩ := lit_cells (ints2 a4 (a6 % 17)) (W := wo) (wr := wr) (by simpa using hbq) j hlt4
                go_wp2_with (first | (go_at_call 72; refine (Any04.bpair _ _ _).mono ?_; rintro e w1 ⟨rfl, hb⟩) | (go_at_call 73; refine (Any04.rpair _ _ _).mono ?_; rintro e w1 ⟨rfl, hb⟩) | (go_at_call 74; refine (Any04.bset _ _ _ _).mono ?_; rintro e w1 ⟨rfl, hb⟩) | (go_at_call 75; refine (Any04.rset _ _ _ _).mono ?_; rintro e w1 ⟨rfl, hb⟩))
                go_roundw
                case rel => exact ⟨j + 1, by omega, by go_num, hbq.trans (Below.mono (B := wr.heap.size) (by repeat (first | exact Below.refl _ _ | assumption | refine Buf.then_ ?_ (by assumption))) (by have := hbq.size; simp at this; omega))⟩
                case measure => simp [intOf]; omega
              · obtain rfl : j = 2 := by omega
                go_wp2_with fail
                go_roundw
                case rel => exact ⟨k + 1, by omega, by go_num, hbel2.trans (Below.mono (B := wo.heap.size) (((Below.refl _ wo).alloc (Nat.le_refl _) _).trans (hbq.mono (by omega))) (by have := hbel2.size; simp at this; omega))⟩
                case measure => simp [intOf]; omega
          · obtain rfl : k = 2 := by omega
            go_wp2_with (go_at_call 61; refine (sane_any _).mono ?_; rintro e w1 ⟨rfl, hb⟩)
            go_ret
            exact ⟨rfl, Buf.then_ (hbw.trans (Below.mono (B := wa.heap.size) (((Below.refl _ wa).alloc (Nat.le_refl _) _).trans (hbel2.mono (by omega))) hbw.size)) hb⟩
end Laws
end Go.Proofs.Ytmkcheiidhppbaa
