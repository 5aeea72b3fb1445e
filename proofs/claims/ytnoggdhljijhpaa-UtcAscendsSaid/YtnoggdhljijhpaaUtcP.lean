/- Padded digits: appendPadded. -/
import Derived.Test.YtnoggdhljijhpaaDiceN
import Derived.Deep.DeepCutAuto
set_option linter.unusedVariables false
set_option linter.unusedSimpArgs false
namespace Go.Proofs.Ytnoggdhljijhpaa
open Go.RowKit
namespace Utc
theorem infoB : (Try.prog.info? 5).map (fun i => (i.zero, i.size, i.bytes)) = some (some (.int .u8 0), 1, 1) := by kernel_rfl
def bvs (l : List UInt8) : List Value := l.map fun b => Value.int .u8 b.toNat
theorem bvs_cat (k l : List UInt8) : bvs (k ++ l) = bvs k ++ bvs l := by simp [bvs]
theorem bvs_len (l : List UInt8) : (bvs l).length = l.length := by simp [bvs]
def dgc (n k : Nat) : UInt8 := UInt8.ofNat (48 + n / 10 ^ k % 10)
/-- The last k digits. -/
def pc : Nat → Nat → List UInt8
  | 0, _ => []
  | k + 1, n => dgc n k :: pc k n
theorem pc_len : ∀ k n, (pc k n).length = k
  | 0, _ => rfl
  | k + 1, n => by simp [pc, pc_len k n]
def un : Nat → Int
  | 0 => 0
  | k + 1 => 10 ^ k
theorem un_div (k : Nat) : un (k + 1) / 10 = un k := by
  cases k with
  | zero => rfl
  | succ k =>
    show (10 : Int) ^ (k + 1) / 10 = 10 ^ k
    rw [Int.pow_succ]; omega
theorem un_bd (k : Nat) (h : k ≤ 5) : 1 ≤ un (k + 1) ∧ un (k + 1) ≤ 100000 := by
  rcases (show k = 0 ∨ k = 1 ∨ k = 2 ∨ k = 3 ∨ k = 4 ∨ k = 5 by omega) with rfl | rfl | rfl | rfl | rfl | rfl <;> decide
theorem dgc_is (n k : Nat) : IntKind.u8.wrap (48 + ((n : Int) / un (k + 1)) % 10) = ((dgc n k).toNat : Int) := by
  have h : (n : Int) / un (k + 1) = ((n / 10 ^ k : Nat) : Int) := by
    show (n : Int) / 10 ^ k = _
    push_cast; rfl
  rw [h, IntKind.wrap_u8]
  have : (dgc n k).toNat = 48 + n / 10 ^ k % 10 := by
    unfold dgc
    rw [UInt8.toNat_ofNat']
    omega
  rw [this]
  omega
theorem info_parts {X : Option TypeInfo} {z : Value} {s b : Nat} (h : X.map (fun i => (i.zero, i.size, i.bytes)) = some (some z, s, b)) : ∃ i, X = some i ∧ i.zero = some z ∧ i.size = s ∧ i.bytes = b := by
  cases X with
  | none => cases h
  | some i => simp at h; exact ⟨i, rfl, h.1, h.2.1, h.2.2⟩
set_option maxHeartbeats 2000000 in
theorem pad_any {B : Nat} {W w : World} {v : Value} {xs : List UInt8} (hb : Below B W w) (hB : B ≤ w.heap.size) (O : Buf.Own B w v (bvs xs)) (hx : xs.length ≤ 100) (n wd : Nat) (hn : n ≤ 999999) (w1 : 1 ≤ wd) (w6 : wd ≤ 6) :
    Calls Try.prog 33 #[v, .int .i64 n, .int .i64 wd] w fun e w' => (∃ v', e = .returned v' ∧ Buf.Own B w' v' (bvs (xs ++ pc wd n))) ∧ Below B W w' ∧ B ≤ w'.heap.size := by
  obtain ⟨i0, hi, hz0, hz1, hz2⟩ := info_parts infoB
  have HO := Lib.hid O
  have HB := Lib.hid hb
  have HS := Lib.hid hB
  clear O hb hB
  go_enter Try.func33, Try.ntmps33
  go_wp2_with fail
  go_loop [10, 7] (fun s10 s7 => ∃ k : Nat, s10 = .int .i64 k ∧ s7 = .int .i64 (un (k + 1)) ∧ k + 1 ≤ wd) (fun s10 _ => (wd - intOf s10).toNat)
  case atStart => exact ⟨0, rfl, rfl, w1⟩
  case round =>
    obtain ⟨k, rfl, rfl, hk⟩ := hrel
    by_cases hlt : k + 1 < wd
    · have hlt' : (k : Int) < wd - 1 := by omega
      obtain ⟨u1, u2⟩ := un_bd k (by omega)
      have hm : Hid (un (k + 1) * 10 = un (k + 1 + 1)) := Lib.hid (by show (10 : Int) ^ k * 10 = 10 ^ (k + 1); rw [Int.pow_succ])
      generalize un (k + 1) = u at *
      go_wp2_with fail
      go_round
      case rel => exact ⟨k + 1, by go_num, by rw [hm.out], by omega⟩
      case measure => simp [intOf]; omega
    · obtain rfl : wd = k + 1 := by omega
      have hlt' : ¬ (k : Int) < ((k + 1 : Nat) : Int) - 1 := by omega
      go_wp2_with fail
      go_loopw [0, 7] (fun s0 s7 wr => ∃ (j : Nat) (R : List UInt8), s7 = .int .i64 (un j) ∧ j ≤ k + 1 ∧ Hid (R ++ pc j n = pc (k + 1) n) ∧ Hid (Buf.Own B wr s0 (bvs (xs ++ R))) ∧ Hid (Below B W wr) ∧ Hid (B ≤ wr.heap.size)) (fun _ s7 _ => (intOf s7).toNat)
      case atStart => exact ⟨k + 1, [], rfl, Nat.le_refl _, Lib.hid rfl, Lib.hid (by simpa using HO.out), HB, HS⟩
      case round =>
        obtain ⟨j, R, rfl, hj, hR, O, B1, S1⟩ := hrel
        cases j with
        | zero =>
          have e0 : un 0 = 0 := rfl
          rw [e0]
          have hR' : R = pc (k + 1) n := by have := hR.out; simpa [pc] using this
          replace hR' := Lib.hid hR'
          go_wp2_with fail
          go_ret
          exact ⟨⟨_, rfl, by rw [← hR'.out]; exact O.out⟩, B1.out, S1.out⟩
        | succ j =>
          obtain ⟨u1, u2⟩ := un_bd j (by omega)
          have hd := dgc_is n j
          have hdv := un_div j
          have hRl : R.length ≤ 6 := by
            have := congrArg List.length hR.out
            rw [List.length_append, pc_len, pc_len] at this; omega
          have hR' : Hid ((R ++ [dgc n j]) ++ pc j n = pc (k + 1) n) := Lib.hid (by rw [List.append_assoc]; exact hR.out)
          have hlen : (bvs (xs ++ R)).length + 1 ≤ 1000 := by rw [bvs_len, List.length_append]; omega
          have hex : Hid (bvs (xs ++ (R ++ [dgc n j])) = bvs (xs ++ R) ++ [.int .u8 ((dgc n j).toNat : Int)]) := Lib.hid (by rw [← List.append_assoc, bvs_cat]; rfl)
          have hsm : Hid (un j < un (j + 1)) := Lib.hid (by rw [← hdv]; omega)
          have hu0 : Hid (0 ≤ un j) := Lib.hid (by rw [← hdv]; omega)
          generalize un (j + 1) = u at *
          obtain ⟨q, hq⟩ : ∃ q, (n : Int) / u = q := ⟨_, rfl⟩
          have q0 : 0 ≤ q := by rw [← hq]; exact Int.ediv_nonneg (by omega) (by omega)
          have q9 : q ≤ 999999 := by rw [← hq]; exact Int.le_trans (Int.ediv_le_self _ (by omega)) (by omega)
          rw [hq] at hd
          obtain ⟨dv, hdv2⟩ : ∃ dv, dv = (dgc n j).toNat := ⟨_, rfl⟩
          rw [← hdv2] at hd hex
          replace hdv2 := Lib.hid hdv2
          have hmax : (bvs (xs ++ R)).length + 1 ≤ maxLen := by unfold maxLen; omega
          have hby : ((bvs (xs ++ R)).length + 1) * 1 ≤ 140737488355328 := by omega
          replace hR := Lib.hid hR
          have n0 : (0 : Int) ≤ n := by omega
          have n9 : (n : Int) ≤ 999999 := by omega
          go_wp2_with (at_builtin; refine Buf.wpList_append_one rfl _ _ 62 rfl 5 _ i0 (.int .u8 0) 1 Try.underlying62 hi hz0 hz1 hz2 rfl rfl O.out B1.out S1.out (.int .u8 (dv : Int)) rfl rfl hmax hby ?_; intro v' w' hown' hb' hs')
          refine ⟨⟨j, R ++ [dgc n j], by rw [hdv], by omega, hR', Lib.hid (by rw [hex.out]; exact hown'), Lib.hid hb', Lib.hid (Nat.le_trans S1.out hs')⟩, ?_⟩
          have h1 := hsm.out
          have h2 := hu0.out
          simp only [intOf]
          rw [hdv]
          omega
end Utc
end Go.Proofs.Ytnoggdhljijhpaa
