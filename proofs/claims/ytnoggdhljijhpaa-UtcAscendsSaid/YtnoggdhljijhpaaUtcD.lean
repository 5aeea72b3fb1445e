/- Contracts of tables of leap seconds: Valid, isTime, BinarySearch, Offset, civilOf, ToCivil. -/
import Derived.Test.YtnoggdhljijhpaaUtcL
import Derived.Test.YtnoggdhljijhpaaUtcA
import Derived.Test.YtnoggdhljijhpaaWithin
import Derived.Test.YtnoggdhljijhpaaMidN
import Derived.Deep.DeepCutAuto
set_option linter.unusedVariables false
set_option linter.unusedSimpArgs false
namespace Go.Proofs.Ytnoggdhljijhpaa
open Go.RowKit
namespace Utc
/-- A row of ints that can be read. -/
structure Ro (w : World) (a : Option Addr) (n c : Nat) (L : List Int) : Prop where
  len : n = L.length
  nc : n ≤ c
  cap : c ≤ 9223372036854775807
  at_ : 0 < n → ∃ g o, a = some ⟨g, o, none⟩ ∧ g < w.heap.size ∧ ∀ (j : Nat) (x : Int), L[j]? = some x → w.cell? ⟨g, o + j, none⟩ = some (.int .i64 x)
theorem Ro.below {w w' : World} {a : Option Addr} {n c : Nat} {L : List Int} (h : Ro w a n c L) (hb : Below w.heap.size w w') : Ro w' a n c L :=
  ⟨h.len, h.nc, h.cap, fun h0 => by
    obtain ⟨g, o, e, hg, hc⟩ := h.at_ h0
    exact ⟨g, o, e, Nat.lt_of_lt_of_le hg hb.size, fun j x hx => (World.cell?_of_block (a := ⟨g, o + j, none⟩) (hb.block g hg)).trans (hc j x hx)⟩⟩
theorem Ro.drewN {w : World} {a : Option Addr} {n c : Nat} {L : List Int} (h : Ro w a n c L) (m : Nat) : Ro (w.drewN m) a n c L := ⟨h.len, h.nc, h.cap, h.at_⟩
theorem Ro.take {w : World} {a : Option Addr} {n c : Nat} {L : List Int} (h : Ro w a n c L) (k : Nat) (hk : k ≤ n) : Ro w a k c (L.take k) :=
  ⟨by rw [List.length_take, ← h.len]; omega, by have := h.nc; omega, h.cap, fun h0 => by
    obtain ⟨g, o, e, hg, hc⟩ := h.at_ (by omega)
    refine ⟨g, o, e, hg, fun j x hx => hc j x ?_⟩
    rw [List.getElem?_take] at hx
    split at hx
    · exact hx
    · cases hx⟩
theorem Ro.cell {w : World} {g o : Nat} {n c : Nat} {L : List Int} (h : Ro w (some ⟨g, o, none⟩) n c L) (k : Nat) (hk : k < n) : w.cell? ⟨g, o + k, none⟩ = some (.int .i64 (L.getD k 0)) := by
  obtain ⟨g', o', e, hg, hc⟩ := h.at_ (by omega)
  injection e with e
  injection e with e1 e2
  subst e1 e2
  have hl := h.len
  refine hc k _ ?_
  rw [List.getD_eq_getElem?_getD, List.getElem?_eq_getElem (by omega)]; rfl
theorem Ro.form {w : World} {a : Option Addr} {n c : Nat} {L : List Int} (h : Ro w a n c L) (h0 : 0 < n) : ∃ g o, a = some ⟨g, o, none⟩ := by
  obtain ⟨g, o, e, _⟩ := h.at_ h0
  exact ⟨g, o, e⟩
/-- The one before. -/
def bef (L : List Int) (k : Nat) : Int := if k = 0 then 0 else L.getD (k - 1) 0 - ((k - 1 : Nat) : Int)
set_option maxHeartbeats 2000000 in
theorem valid_yes {w : World} {a : Option Addr} {n c : Nat} {L : List Int} (h : Ro w a n c L) (hv : VT L) :
    Calls Try.prog 29 #[.slice a n c] w fun e w' => e = .returned (.bool true) ∧ w' = w := by
  have hnc := h.nc
  have hcc := h.cap
  have hl := h.len
  have h64 := hv.len
  have n64 : n ≤ 64 := by omega
  have n64' : (n : Int) ≤ 64 := by omega
  have H := Lib.hid h
  have HV := Lib.hid hv
  replace hl := Lib.hid hl
  clear h hv h64
  go_enter Try.func29, Try.ntmps29
  go_wp2
  go_loop [3, 12] (fun s3 s12 => ∃ k : Nat, k ≤ n ∧ s12 = .int .i64 k ∧ s3 = .int .i64 (bef L k)) (fun _ i => (n - intOf i).toNat)
  case atStart => exact ⟨0, by omega, rfl, rfl⟩
  case round =>
    obtain ⟨k, hk, rfl, rfl⟩ := hrel
    by_cases hlt : k < n
    · obtain ⟨g, o, rfl⟩ := H.out.form (by omega)
      have ck := H.out.cell k hlt
      obtain ⟨v1, v2, v3⟩ := HV.out.val k (by rw [← hl.out]; exact hlt)
      have hb : bef L k < L.getD k 0 - k ∧ 0 ≤ bef L k := by
        unfold bef
        by_cases h0 : k = 0
        · subst h0; simp at *; omega
        · rw [if_neg h0]
          have := HV.out.asc (k - 1) k (by omega) (by rw [← hl.out]; exact hlt)
          have := HV.out.val (k - 1) (by rw [← hl.out]; omega)
          omega
      obtain ⟨hb1, hb2⟩ := hb
      have hnext : Hid (L.getD k 0 - k = bef L (k + 1)) := Lib.hid (by unfold bef; simp)
      generalize bef L k = B at *
      generalize L.getD k 0 = y at *
      have y1 : 1 ≤ y := by omega
      have y0 : 0 ≤ y - k := by omega
      go_wp2
      go_round
      case rel => exact ⟨k + 1, by omega, by go_num, by rw [← hnext.out]⟩
      case measure => simp [intOf]; omega
    · obtain rfl : n = k := by omega
      go_wp2
      go_ret
      exact ⟨rfl, rfl⟩
theorem isTime_yes (t : Int) (w : World) (h0 : 0 ≤ t) (h9 : t ≤ 9007199254740992) :
    Calls Try.prog 30 #[.int .i64 t] w fun e w' => e = .returned (.bool true) ∧ w' = w := by
  go_enter Try.func30, Try.ntmps30
  go_wp2
  go_ret
  exact ⟨rfl, rfl⟩
theorem less_any (x y : Int) (w : World) : Calls Try.prog 39 #[.int .i64 x, .int .i64 y] w fun e w' => e = .returned (.bool (decide (x < y))) ∧ w' = w := by
  go_enter Try.func39, Try.ntmps39
  go_wp2
  go_ret
  exact ⟨rfl, rfl⟩
theorem isNaN_any (x : Int) (w : World) : Calls Try.prog 40 #[.int .i64 x] w fun e w' => e = .returned (.bool false) ∧ w' = w := by
  go_enter Try.func40, Try.ntmps40
  go_wp2
  go_ret
  exact ⟨by simp, rfl⟩
set_option maxHeartbeats 4000000 in
theorem search_any {w : World} {a : Option Addr} {n c : Nat} {L : List Int} (h : Ro w a n c L) (hv : VT L) (s : Int) :
    Calls Try.prog 31 #[.slice a n c, .int .i64 s] w fun e w' => e = .returned (.tuple #[.int .i64 (off L s : Nat), .bool (isL L s)]) ∧ w' = w := by
  have hnc := h.nc
  have hcc := h.cap
  have hl := h.len
  have h64 := hv.len
  have n64 : n ≤ 64 := by omega
  have hr := off_le L s
  rw [← hl] at hr
  have BL := Lib.hid fun k (hk : k < off L s) => off_below L s k hk
  have AB := Lib.hid fun k (hk : off L s ≤ k) (hn : k < n) => off_above hv s k hk (by rw [← hl]; exact hn)
  have IL : Hid (isL L s = (decide (off L s < n) && decide (L.getD (off L s) 0 = s))) := Lib.hid (by unfold isL; rw [← hl]; simp)
  have H := Lib.hid h
  clear h hv h64 hl
  generalize isL L s = il at *
  generalize off L s = r at *
  go_enter Try.func31, Try.ntmps31
  go_wp2_with fail
  go_loop [7, 8] (fun i j => ∃ a b : Nat, i = .int .i64 a ∧ j = .int .i64 b ∧ a ≤ r ∧ r ≤ b ∧ b ≤ n) (fun i j => (intOf j - intOf i).toNat)
  case atStart => exact ⟨0, n, rfl, rfl, by omega, hr, by omega⟩
  case round =>
    obtain ⟨x, y, rfl, rfl, h1, h2, h3⟩ := hrel
    by_cases hlt : x < y
    · obtain ⟨g, o, rfl⟩ := H.out.form (by omega)
      have e2 : Hid (((x : Int) + y) / 2 = (((x + y) / 2 : Nat) : Int)) := Lib.hid (by omega)
      have cm := H.out.cell ((x + y) / 2) (by omega)
      by_cases hq : r ≤ (x + y) / 2
      · have hge := AB.out _ hq (by omega)
        generalize hz : L.getD ((x + y) / 2) 0 = z at *
        replace hz := Lib.hid hz
        go_wp2_with (go_at_call 39; refine (less_any _ _ _).mono ?_; rintro e w' ⟨rfl, rfl⟩)
        go_round
        case rel => exact ⟨x, (x + y) / 2, rfl, by simp only [e2.out], h1, hq, by omega⟩
        case measure => simp [intOf]; omega
      · have hge := BL.out ((x + y) / 2) (by omega)
        generalize hz : L.getD ((x + y) / 2) 0 = z at *
        replace hz := Lib.hid hz
        go_wp2_with (go_at_call 39; refine (less_any _ _ _).mono ?_; rintro e w' ⟨rfl, rfl⟩)
        go_round
        case rel => exact ⟨(x + y) / 2 + 1, y, congrArg (Value.int .i64) (by omega), rfl, by omega, h2, h3⟩
        case measure => simp [intOf]; omega
    · obtain rfl : x = y := by omega
      obtain rfl : x = r := by omega
      by_cases hx : x < n
      · obtain ⟨g, o, rfl⟩ := H.out.form (by omega)
        have cm := H.out.cell x hx
        have hx' : (x : Int) < n := by omega
        by_cases hs : L.getD x 0 = s
        · have hi : il = true := by rw [IL.out, decide_eq_true hx, decide_eq_true hs]; rfl
          subst hi
          rw [hs] at cm
          replace hs := Lib.hid hs
          clear IL
          go_wp2_with (go_at_call 40; refine (isNaN_any _ _).mono ?_; rintro e w' ⟨rfl, rfl⟩)
          go_ret2
          exact ⟨rfl, rfl⟩
        · have hi : il = false := by rw [IL.out, decide_eq_true hx, decide_eq_false hs]; rfl
          subst hi
          generalize L.getD x 0 = z at *
          have hz : (z == s) = false := by simpa using hs
          replace hs := Lib.hid hs
          clear IL
          go_wp2_with (go_at_call 40; refine (isNaN_any _ _).mono ?_; rintro e w' ⟨rfl, rfl⟩)
          go_ret2
          exact ⟨rfl, rfl⟩
      · have hi : il = false := by rw [IL.out, decide_eq_false hx]; rfl
        subst hi
        have hx' : ¬ (x : Int) < n := by omega
        clear IL
        go_wp2_with fail
        go_ret2
        exact ⟨rfl, rfl⟩
theorem offset_any {w : World} {a : Option Addr} {n c : Nat} {L : List Int} (h : Ro w a n c L) (hv : VT L) (t : Int) (h0 : 0 ≤ t) (h9 : t ≤ 9007199254740992) :
    Calls Try.prog 17 #[.slice a n c, .int .i64 t] w fun e w' => e = .returned (.int .i64 (off L (t / 1000000) : Nat)) ∧ w' = w := by
  have V := Lib.hid (valid_yes h hv)
  have S := Lib.hid (search_any h hv (t / 1000000))
  clear h hv
  go_enter Try.func17, Try.ntmps17
  go_wp2_with fail
  with_reducible refine V.out.mono ?_
  rintro e w' ⟨rfl, hw⟩
  subst hw
  go_wp2_with (go_at_call 30; refine (isTime_yes _ _ h0 h9).mono ?_; rintro e w'' ⟨rfl, hw⟩; subst hw)
  with_reducible refine S.out.mono ?_
  rintro e w' ⟨rfl, hw⟩
  subst hw
  go_wp2_with fail
  go_ret
  exact ⟨rfl, rfl⟩
theorem cells7 {w : World} {g : Nat} {x0 x1 x2 x3 x4 x5 x6 : Value} {t : TypeId} (h : w.heap[g]? = some (.cells #[x0, x1, x2, x3, x4, x5, x6] t (0, 0))) : w.cell? ⟨g, 0, none⟩ = some x0 ∧ w.cell? ⟨g, 1, none⟩ = some x1 ∧ w.cell? ⟨g, 2, none⟩ = some x2 ∧ w.cell? ⟨g, 3, none⟩ = some x3 ∧ w.cell? ⟨g, 4, none⟩ = some x4 ∧ w.cell? ⟨g, 5, none⟩ = some x5 ∧ w.cell? ⟨g, 6, none⟩ = some x6 :=
  ⟨cell_of_row w g 0 _ _ _ h, cell_of_row w g 1 _ _ _ h, cell_of_row w g 2 _ _ _ h, cell_of_row w g 3 _ _ _ h, cell_of_row w g 4 _ _ _ h, cell_of_row w g 5 _ _ _ h, cell_of_row w g 6 _ _ _ h⟩
theorem free7 {w : World} {g : Nat} {x0 x1 x2 x3 x4 x5 x6 : Value} {t : TypeId} (h : w.heap[g]? = some (.cells #[x0, x1, x2, x3, x4, x5, x6] t (0, 0))) : w.frozen? ⟨g, 0, none⟩ = false ∧ w.frozen? ⟨g, 1, none⟩ = false ∧ w.frozen? ⟨g, 2, none⟩ = false ∧ w.frozen? ⟨g, 3, none⟩ = false ∧ w.frozen? ⟨g, 4, none⟩ = false ∧ w.frozen? ⟨g, 5, none⟩ = false ∧ w.frozen? ⟨g, 6, none⟩ = false :=
  ⟨frozen_of_row w g 0 _ _ h, frozen_of_row w g 1 _ _ h, frozen_of_row w g 2 _ _ h, frozen_of_row w g 3 _ _ h, frozen_of_row w g 4 _ _ h, frozen_of_row w g 5 _ _ h, frozen_of_row w g 6 _ _ h⟩
/-- The cells of a civil time. -/
def civ (c s u : Int) : Value := .agg #[.int .i64 (dY (c / 86400)), .int .i64 (dM (c / 86400)), .int .i64 (dD (c / 86400)), .int .i64 (c % 86400 / 3600), .int .i64 (c % 86400 / 60 % 60), .int .i64 s, .int .i64 u]
set_option maxHeartbeats 1000000 in
theorem civilOf_any (c : Int) (w : World) (h0 : 0 ≤ c) (h9 : c ≤ 9007199254) :
    Calls Try.prog 32 #[.int .i64 c] w fun e w' => e = .returned (.agg #[.int .i64 (dY (c / 86400)), .int .i64 (dM (c / 86400)), .int .i64 (dD (c / 86400)), .int .i64 (c % 86400 / 3600), .int .i64 (c % 86400 / 60 % 60), .int .i64 (c % 86400 % 60), .int .i64 0]) ∧ Below w.heap.size w w' := by
  have D := Lib.hid fun w => date_yes (c / 86400) w (by omega) (by omega)
  generalize dY (c / 86400) = Y at *
  generalize dM (c / 86400) = M at *
  generalize dD (c / 86400) = Q at *
  go_enter Try.func32, Try.ntmps32
  go_wp2_with fail
  with_reducible refine (D.out _).mono ?_
  rintro e w1 ⟨rfl, hw⟩
  subst hw
  go_wp2_with fail
  refine bodyPost_ret (v := .agg #[.int .i64 Y, .int .i64 M, .int .i64 Q, .int .i64 (c % 86400 / 3600), .int .i64 (c % 86400 / 60 % 60), .int .i64 (c % 86400 % 60), .int .i64 0]) (by simp [results, Try.results32, go_sem]) rfl ⟨rfl, ?_⟩
  repeat (refine Below.setCell ?_ (Nat.le_refl _) _)
  exact Dice.new_block _
set_option maxRecDepth 100000 in
set_option maxRecDepth 100000 in
set_option maxHeartbeats 4000000 in
theorem toCivil_any {w : World} {a : Option Addr} {n c : Nat} {L : List Int} (h : Ro w a n c L) (hv : VT L) (t : Int) (h0 : 0 ≤ t) (h9 : t ≤ 9007199254740992) :
    Calls Try.prog 16 #[.slice a n c, .int .i64 t] w fun e w' => e = .returned (.tuple #[civ (cb L (t / 1000000)) (cs L (t / 1000000)) (t % 1000000), .int .i64 0]) ∧ Below w.heap.size w w' := by
  have V := Lib.hid fun w' (hb : Below w.heap.size w w') => valid_yes (h.below hb) hv
  obtain ⟨s, hs⟩ : ∃ s, s = t / 1000000 := ⟨_, rfl⟩
  have s0 : 0 ≤ s := by omega
  have s9 : s ≤ 9007199254 := by omega
  have S := Lib.hid fun w' (hb : Below w.heap.size w w') => search_any (h.below hb) hv s
  obtain ⟨c0, c9, c5, c6, c7⟩ := cb_in hv s s0 s9
  rw [← hs]
  obtain ⟨b, hb⟩ : ∃ b, b = off L s := ⟨_, rfl⟩
  have E : Hid (cb L s = if isL L s then s - off L s - 1 else s - off L s) := Lib.hid rfl
  have F : Hid (cs L s = if isL L s then 60 else cb L s % 86400 % 60) := Lib.hid rfl
  rw [← hb] at S E c6 c7
  have BA := Lib.hid (Dice.new_block (w := w) (.cells #[.int .i64 0, .int .i64 0, .int .i64 0, .int .i64 0, .int .i64 0, .int .i64 0, .int .i64 0] 39))
  clear h hv c5
  replace hs := hs.symm
  replace hb := Lib.hid hb
  cases hi : isL L s with
  | true =>
    rw [hi] at S E F
    have E' : Hid (s - b - 1 = cb L s) := Lib.hid (by rw [E.out]; simp)
    have F' : Hid (cs L s = 60) := Lib.hid (by rw [F.out]; simp)
    have hcc : Hid (civ (cb L s) (cs L s) (t % 1000000) = .agg #[.int .i64 (dY (cb L s / 86400)), .int .i64 (dM (cb L s / 86400)), .int .i64 (dD (cb L s / 86400)), .int .i64 (cb L s % 86400 / 3600), .int .i64 (cb L s % 86400 / 60 % 60), .int .i64 60, .int .i64 (t % 1000000)]) := Lib.hid (by rw [F'.out]; rfl)
    clear E F F'
    replace hi := Lib.hid hi
    go_enter Try.func16, Try.ntmps16
    go_wp2_with fail
    with_reducible refine (V.out _ BA.out).mono ?_
    rintro e w' ⟨rfl, hw⟩
    subst hw
    go_wp2_with (go_at_call 30; refine (isTime_yes _ _ h0 h9).mono ?_; rintro e w'' ⟨rfl, hw⟩; subst hw)
    with_reducible refine (S.out _ BA.out).mono ?_
    rintro e w' ⟨rfl, hw⟩
    subst hw
    go_wp2_with fail
    rw [E'.out]
    have p0 := heap_alloc_new w (.cells #[.int .i64 0, .int .i64 0, .int .i64 0, .int .i64 0, .int .i64 0, .int .i64 0, .int .i64 0] 39)
    refine (civilOf_any _ _ c0 c9).mono ?_
    rintro e w1 ⟨rfl, hb1⟩
    replace p0 := (hb1.block _ (Array.getElem?_eq_some_iff.1 p0).1).trans p0
    have hlt := (Array.getElem?_eq_some_iff.1 p0).1
    replace BA := Lib.hid (BA.out.trans (hb1.mono BA.out.size))
    clear hb1 V S
    generalize dY (cb L s / 86400) = Y at *
    generalize dM (cb L s / 86400) = M at *
    generalize dD (cb L s / 86400) = D at *
    generalize cb L s % 86400 / 3600 = H at *
    generalize cb L s % 86400 / 60 % 60 = N at *
    generalize cb L s % 86400 % 60 = S0 at *
    obtain ⟨z, hz⟩ : ∃ z, z = w.heap.size := ⟨_, rfl⟩
    rw [← hz] at p0 hlt ⊢
    have hzw : w.heap.size ≤ z := by omega
    have BK := Lib.hid fun wx (hk : Below w.heap.size w wx) (cs : Array Value) => Mid.below_row hk z cs hzw
    rw [← hz] at BA BK
    replace hz := Lib.hid hz
    replace p0 := Lib.hid p0
    go_upto_region 10 with (first | ((with_reducible refine Mid.str 39 (.tmp 10) (.tmp 34) w1.heap.size 39 #[.int .i64 0, .int .i64 0, .int .i64 0, .int .i64 0, .int .i64 0, .int .i64 0, .int .i64 0] #[.int .i64 Y, .int .i64 M, .int .i64 D, .int .i64 H, .int .i64 N, .int .i64 S0, .int .i64 0] (heap_alloc_new w1 _) ?_ ?_ ?_ ?_ ?_ ?_ ?_ ?_); (· rfl); (· rfl); (· first | rfl | simp [Act.eval]); (· first | rfl | simp [Act.eval]); (· kernel_rfl); (· rfl); (· simp [Value.oneCell'])) | fail)
    obtain ⟨w2, hw2⟩ : ∃ w2, w2 = (w1.alloc (.cells #[.int .i64 0, .int .i64 0, .int .i64 0, .int .i64 0, .int .i64 0, .int .i64 0, .int .i64 0] 39)).setRow w1.heap.size #[.int .i64 Y, .int .i64 M, .int .i64 D, .int .i64 H, .int .i64 N, .int .i64 S0, .int .i64 0] := ⟨_, rfl⟩
    rw [← hw2]
    have P2 : Hid (w2.heap[w1.heap.size]? = some (.cells #[.int .i64 Y, .int .i64 M, .int .i64 D, .int .i64 H, .int .i64 N, .int .i64 S0, .int .i64 0] 39 (0, 0))) := Lib.hid (by rw [hw2]; exact setRow_heap _ _ _ _ _ _ (heap_alloc_new w1 _))
    have P0 : Hid (w2.heap[z]? = some (.cells #[.int .i64 0, .int .i64 0, .int .i64 0, .int .i64 0, .int .i64 0, .int .i64 0, .int .i64 0] 39 (0, 0))) := Lib.hid (by rw [hw2, setRow_other _ _ _ _ (by omega)]; exact (heap_alloc_old w1 _ hlt).trans p0.out)
    have hzy : z ≤ w1.heap.size := by omega
    replace BA := Lib.hid (show Below z w w2 by rw [hw2]; exact Mid.below_row (BA.out.alloc hzy _) _ _ hzy)
    replace hw2 := Lib.hid hw2
    have hne : z ≠ w1.heap.size := by omega
    generalize w1.heap.size = y at *
    obtain ⟨k0, k1, k2, k3, k4, k5, k6⟩ := cells7 P2.out
    obtain ⟨f0, f1, f2, f3, f4, f5, f6⟩ := free7 P2.out
    go_upto_region 12 with fail
    obtain ⟨w3, hw3⟩ : ∃ w3, w3 = (w2.setCell ⟨y, 5, none⟩ (.int .i64 60)).setCell ⟨y, 6, none⟩ (.int .i64 (t % 1000000)) := ⟨_, rfl⟩
    rw [← hw3]
    have P3 : Hid (w3.heap[y]? = some (.cells #[.int .i64 Y, .int .i64 M, .int .i64 D, .int .i64 H, .int .i64 N, .int .i64 60, .int .i64 (t % 1000000)] 39 (0, 0))) := Lib.hid (by rw [hw3]; exact (heap_setCell_same _ y 6 _ _ _ (heap_setCell_same _ y 5 _ _ _ P2.out)))
    replace P0 : Hid (w3.heap[z]? = some (.cells #[.int .i64 0, .int .i64 0, .int .i64 0, .int .i64 0, .int .i64 0, .int .i64 0, .int .i64 0] 39 (0, 0))) := Lib.hid (by rw [hw3]; exact ((heap_setCell_other _ ⟨y, 6, none⟩ _ _ hne).trans ((heap_setCell_other _ ⟨y, 5, none⟩ _ _ hne).trans P0.out)))
    replace BA := Lib.hid (show Below z w w3 by rw [hw3]; exact ((BA.out.setCell (p := ⟨y, 5, none⟩) hzy _).setCell (p := ⟨y, 6, none⟩) hzy _))
    replace hw3 := Lib.hid hw3
    clear k0 k1 k2 k3 k4 k5 k6 f0 f1 f2 f3 f4 f5 f6 P2
    go_wp2_with (first | ((with_reducible refine Mid.ldr 39 (.tmp 10) y 39 #[.int .i64 Y, .int .i64 M, .int .i64 D, .int .i64 H, .int .i64 N, .int .i64 60, .int .i64 (t % 1000000)] P3.out ?_ ?_ ?_ ?_ ?_ ?_); (· rfl); (· rfl); (· first | rfl | simp [Act.eval]); (· exact ⟨_, rfl, rfl⟩); (· kernel_rfl)) | ((with_reducible refine Mid.str 39 (.tmp 4) (.tmp 39) z 39 #[.int .i64 0, .int .i64 0, .int .i64 0, .int .i64 0, .int .i64 0, .int .i64 0, .int .i64 0] #[.int .i64 Y, .int .i64 M, .int .i64 D, .int .i64 H, .int .i64 N, .int .i64 60, .int .i64 (t % 1000000)] P0.out ?_ ?_ ?_ ?_ ?_ ?_ ?_ ?_); (· rfl); (· rfl); (· first | rfl | simp [Act.eval]); (· first | rfl | simp [Act.eval]); (· kernel_rfl); (· rfl); (· simp [Value.oneCell'])) | fail)
    obtain ⟨w4, hw4⟩ : ∃ w4, w4 = w3.setRow z #[.int .i64 Y, .int .i64 M, .int .i64 D, .int .i64 H, .int .i64 N, .int .i64 60, .int .i64 (t % 1000000)] := ⟨_, rfl⟩
    rw [← hw4]
    have P4 : w4.heap[z]? = some (.cells #[.int .i64 Y, .int .i64 M, .int .i64 D, .int .i64 H, .int .i64 N, .int .i64 60, .int .i64 (t % 1000000)] 39 (0, 0)) := by rw [hw4]; exact setRow_heap _ _ _ _ _ _ P0.out
    obtain ⟨k0, k1, k2, k3, k4, k5, k6⟩ := cells7 P4
    have B4 := Lib.hid (show Below z w w4 by rw [hw4]; exact Mid.below_row BA.out z _ (Nat.le_refl _))
    clear P4
    replace hw4 := Lib.hid hw4
    refine bodyPost_ret (v := .tuple #[.agg #[.int .i64 Y, .int .i64 M, .int .i64 D, .int .i64 H, .int .i64 N, .int .i64 60, .int .i64 (t % 1000000)], .int .i64 0]) (by simp [results, Try.results16, go_sem, k0, k1, k2, k3, k4, k5, k6]) rfl ⟨by rw [hcc.out], by have := B4.out; rw [hz.out] at this; exact this⟩
  | false =>
    rw [hi] at S E F
    have E' : Hid (s - b = cb L s) := Lib.hid (by rw [E.out]; simp)
    have F' : Hid (cs L s = cb L s % 86400 % 60) := Lib.hid (by rw [F.out]; simp)
    have hcc : Hid (civ (cb L s) (cs L s) (t % 1000000) = .agg #[.int .i64 (dY (cb L s / 86400)), .int .i64 (dM (cb L s / 86400)), .int .i64 (dD (cb L s / 86400)), .int .i64 (cb L s % 86400 / 3600), .int .i64 (cb L s % 86400 / 60 % 60), .int .i64 (cb L s % 86400 % 60), .int .i64 (t % 1000000)]) := Lib.hid (by rw [F'.out]; rfl)
    clear E F F'
    replace hi := Lib.hid hi
    go_enter Try.func16, Try.ntmps16
    go_wp2_with fail
    with_reducible refine (V.out _ BA.out).mono ?_
    rintro e w' ⟨rfl, hw⟩
    subst hw
    go_wp2_with (go_at_call 30; refine (isTime_yes _ _ h0 h9).mono ?_; rintro e w'' ⟨rfl, hw⟩; subst hw)
    with_reducible refine (S.out _ BA.out).mono ?_
    rintro e w' ⟨rfl, hw⟩
    subst hw
    go_wp2_with fail
    rw [E'.out]
    have p0 := heap_alloc_new w (.cells #[.int .i64 0, .int .i64 0, .int .i64 0, .int .i64 0, .int .i64 0, .int .i64 0, .int .i64 0] 39)
    refine (civilOf_any _ _ c0 c9).mono ?_
    rintro e w1 ⟨rfl, hb1⟩
    replace p0 := (hb1.block _ (Array.getElem?_eq_some_iff.1 p0).1).trans p0
    have hlt := (Array.getElem?_eq_some_iff.1 p0).1
    replace BA := Lib.hid (BA.out.trans (hb1.mono BA.out.size))
    clear hb1 V S
    generalize dY (cb L s / 86400) = Y at *
    generalize dM (cb L s / 86400) = M at *
    generalize dD (cb L s / 86400) = D at *
    generalize cb L s % 86400 / 3600 = H at *
    generalize cb L s % 86400 / 60 % 60 = N at *
    generalize cb L s % 86400 % 60 = S0 at *
    obtain ⟨z, hz⟩ : ∃ z, z = w.heap.size := ⟨_, rfl⟩
    rw [← hz] at p0 hlt ⊢
    have hzw : w.heap.size ≤ z := by omega
    have BK := Lib.hid fun wx (hk : Below w.heap.size w wx) (cs : Array Value) => Mid.below_row hk z cs hzw
    rw [← hz] at BA BK
    replace hz := Lib.hid hz
    replace p0 := Lib.hid p0
    go_upto_region 14 with (first | ((with_reducible refine Mid.str 39 (.tmp 11) (.tmp 41) w1.heap.size 39 #[.int .i64 0, .int .i64 0, .int .i64 0, .int .i64 0, .int .i64 0, .int .i64 0, .int .i64 0] #[.int .i64 Y, .int .i64 M, .int .i64 D, .int .i64 H, .int .i64 N, .int .i64 S0, .int .i64 0] (heap_alloc_new w1 _) ?_ ?_ ?_ ?_ ?_ ?_ ?_ ?_); (· rfl); (· rfl); (· first | rfl | simp [Act.eval]); (· first | rfl | simp [Act.eval]); (· kernel_rfl); (· rfl); (· simp [Value.oneCell'])) | fail)
    obtain ⟨w2, hw2⟩ : ∃ w2, w2 = (w1.alloc (.cells #[.int .i64 0, .int .i64 0, .int .i64 0, .int .i64 0, .int .i64 0, .int .i64 0, .int .i64 0] 39)).setRow w1.heap.size #[.int .i64 Y, .int .i64 M, .int .i64 D, .int .i64 H, .int .i64 N, .int .i64 S0, .int .i64 0] := ⟨_, rfl⟩
    rw [← hw2]
    have P2 : Hid (w2.heap[w1.heap.size]? = some (.cells #[.int .i64 Y, .int .i64 M, .int .i64 D, .int .i64 H, .int .i64 N, .int .i64 S0, .int .i64 0] 39 (0, 0))) := Lib.hid (by rw [hw2]; exact setRow_heap _ _ _ _ _ _ (heap_alloc_new w1 _))
    have P0 : Hid (w2.heap[z]? = some (.cells #[.int .i64 0, .int .i64 0, .int .i64 0, .int .i64 0, .int .i64 0, .int .i64 0, .int .i64 0] 39 (0, 0))) := Lib.hid (by rw [hw2, setRow_other _ _ _ _ (by omega)]; exact (heap_alloc_old w1 _ hlt).trans p0.out)
    have hzy : z ≤ w1.heap.size := by omega
    replace BA := Lib.hid (show Below z w w2 by rw [hw2]; exact Mid.below_row (BA.out.alloc hzy _) _ _ hzy)
    replace hw2 := Lib.hid hw2
    have hne : z ≠ w1.heap.size := by omega
    generalize w1.heap.size = y at *
    obtain ⟨k0, k1, k2, k3, k4, k5, k6⟩ := cells7 P2.out
    obtain ⟨f0, f1, f2, f3, f4, f5, f6⟩ := free7 P2.out
    go_upto_region 15 with fail
    obtain ⟨w3, hw3⟩ : ∃ w3, w3 = w2.setCell ⟨y, 6, none⟩ (.int .i64 (t % 1000000)) := ⟨_, rfl⟩
    rw [← hw3]
    have P3 : Hid (w3.heap[y]? = some (.cells #[.int .i64 Y, .int .i64 M, .int .i64 D, .int .i64 H, .int .i64 N, .int .i64 S0, .int .i64 (t % 1000000)] 39 (0, 0))) := Lib.hid (by rw [hw3]; exact (heap_setCell_same _ y 6 _ _ _ P2.out))
    replace P0 : Hid (w3.heap[z]? = some (.cells #[.int .i64 0, .int .i64 0, .int .i64 0, .int .i64 0, .int .i64 0, .int .i64 0, .int .i64 0] 39 (0, 0))) := Lib.hid (by rw [hw3]; exact ((heap_setCell_other _ ⟨y, 6, none⟩ _ _ hne).trans P0.out))
    replace BA := Lib.hid (show Below z w w3 by rw [hw3]; exact (BA.out.setCell (p := ⟨y, 6, none⟩) hzy _))
    replace hw3 := Lib.hid hw3
    clear k0 k1 k2 k3 k4 k5 k6 f0 f1 f2 f3 f4 f5 f6 P2
    go_wp2_with (first | ((with_reducible refine Mid.ldr 39 (.tmp 11) y 39 #[.int .i64 Y, .int .i64 M, .int .i64 D, .int .i64 H, .int .i64 N, .int .i64 S0, .int .i64 (t % 1000000)] P3.out ?_ ?_ ?_ ?_ ?_ ?_); (· rfl); (· rfl); (· first | rfl | simp [Act.eval]); (· exact ⟨_, rfl, rfl⟩); (· kernel_rfl)) | ((with_reducible refine Mid.str 39 (.tmp 4) (.tmp 45) z 39 #[.int .i64 0, .int .i64 0, .int .i64 0, .int .i64 0, .int .i64 0, .int .i64 0, .int .i64 0] #[.int .i64 Y, .int .i64 M, .int .i64 D, .int .i64 H, .int .i64 N, .int .i64 S0, .int .i64 (t % 1000000)] P0.out ?_ ?_ ?_ ?_ ?_ ?_ ?_ ?_); (· rfl); (· rfl); (· first | rfl | simp [Act.eval]); (· first | rfl | simp [Act.eval]); (· kernel_rfl); (· rfl); (· simp [Value.oneCell'])) | fail)
    obtain ⟨w4, hw4⟩ : ∃ w4, w4 = w3.setRow z #[.int .i64 Y, .int .i64 M, .int .i64 D, .int .i64 H, .int .i64 N, .int .i64 S0, .int .i64 (t % 1000000)] := ⟨_, rfl⟩
    rw [← hw4]
    have P4 : w4.heap[z]? = some (.cells #[.int .i64 Y, .int .i64 M, .int .i64 D, .int .i64 H, .int .i64 N, .int .i64 S0, .int .i64 (t % 1000000)] 39 (0, 0)) := by rw [hw4]; exact setRow_heap _ _ _ _ _ _ P0.out
    obtain ⟨k0, k1, k2, k3, k4, k5, k6⟩ := cells7 P4
    have B4 := Lib.hid (show Below z w w4 by rw [hw4]; exact Mid.below_row BA.out z _ (Nat.le_refl _))
    clear P4
    replace hw4 := Lib.hid hw4
    refine bodyPost_ret (v := .tuple #[.agg #[.int .i64 Y, .int .i64 M, .int .i64 D, .int .i64 H, .int .i64 N, .int .i64 S0, .int .i64 (t % 1000000)], .int .i64 0]) (by simp [results, Try.results16, go_sem, k0, k1, k2, k3, k4, k5, k6]) rfl ⟨by rw [hcc.out], by have := B4.out; rw [hz.out] at this; exact this⟩
end Utc
end Go.Proofs.Ytnoggdhljijhpaa
