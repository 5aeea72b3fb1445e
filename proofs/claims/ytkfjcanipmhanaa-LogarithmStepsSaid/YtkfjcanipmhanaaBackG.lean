/- slices.Backward over any slice of limbs; nat.Valid, nat.Int at any slice. -/
import Derived.Test.YtkfjcanipmhanaaLogF
set_option linter.unusedVariables false
namespace Go.Proofs.Ytkfjcanipmhanaa
open Go.RowKit Go.Shelf
attribute [local go_sem] Oper.semAt_some
namespace Nat'
/-- A slice of ints, wherever it lies. -/
structure SA (w : World) (a : Option Addr) (n c : Nat) (L : List Int) : Prop where
  len : L.length = n
  nc : n ≤ c
  n9 : n ≤ 100
  cells : 0 < n → ∃ b off, a = some ⟨b, off, none⟩ ∧ b < w.heap.size ∧ ∀ j, j < n → w.cell? ⟨b, off + j, none⟩ = some (.int .i64 (L.getD j 0))
theorem SA.cells' {w : World} {a : Option Addr} {n c : Nat} {L : List Int} (h : SA w a n c L) : 0 < n → ∃ b off, a = some ⟨b, off, none⟩ ∧ b < w.heap.size ∧ ∀ j, j < n → w.cell? ⟨b, off + j, none⟩ = some (.int .i64 (L[j]?.getD 0)) := fun h0 => by
  obtain ⟨b, off, e, h1, h2⟩ := h.cells h0
  exact ⟨b, off, e, h1, fun j hj => by rw [← List.getD_eq_getElem?_getD]; exact h2 j hj⟩
theorem SA.below {w w' : World} {a : Option Addr} {n c : Nat} {L : List Int} (h : SA w a n c L) (hb : Below w.heap.size w w') : SA w' a n c L :=
  ⟨h.len, h.nc, h.n9, fun h0 => by
    obtain ⟨b, off, e, h1, h2⟩ := h.cells h0
    exact ⟨b, off, e, Nat.lt_of_lt_of_le h1 hb.size, fun j hj => (hb.cell (p := ⟨b, off + j, none⟩) h1).trans (h2 j hj)⟩⟩
structure Ok (L : List Int) : Prop where
  small : L.length ≤ 64
  rng : ∀ j, j < L.length → 0 ≤ L.getD j 0 ∧ L.getD j 0 ≤ 1073741823
  last : L.length = 0 ∨ L.getD (L.length - 1) 0 ≠ 0
theorem Ok.vl {L : List Int} (h : Ok L) (h0 : 0 < L.length) : VL L := by
  have out : ∀ j, L.length ≤ j → L.getD j 0 = 0 := fun j hj => by rw [List.getD_eq_getElem?_getD, List.getElem?_eq_none hj]; rfl
  refine ⟨fun j => ?_, fun j => ?_, ?_⟩
  · by_cases hj : j < L.length
    · exact (h.rng j hj).1
    · rw [out j (by omega)]; omega
  · by_cases hj : j < L.length
    · exact (h.rng j hj).2
    · rw [out j (by omega)]; omega
  · have := h.rng (L.length - 1) (by omega)
    rcases h.last with e | e <;> omega
set_option maxHeartbeats 1000000 in
theorem valid_g {w : World} {a : Option Addr} {n c : Nat} {L : List Int} (r : Bool) (hs : SA w a n c L) (hr : Hid (r = true ↔ Ok L)) :
    Calls Try.prog 25 #[.slice a n c] w fun e w' => e = .returned (.bool r) ∧ w' = w := by
  have hl := hs.len
  have hnc := hs.nc
  have hn9 := hs.n9
  have CL := Lib.hid hs.cells
  clear hs
  subst hl
  by_cases h64 : L.length ≤ 64
  · have h64' : (L.length : Int) ≤ 64 := by omega
    go_enter Try.func25, Try.ntmps25
    go_wp2_with fail
    go_loop [10] (fun i => ∃ k : Nat, k ≤ L.length ∧ i = .int .i64 k ∧ Hid (∀ j, j < k → 0 ≤ L.getD j 0 ∧ L.getD j 0 ≤ 1073741823)) (fun i => (L.length - intOf i).toNat)
    case atStart => exact ⟨0, by omega, rfl, Lib.hid fun j hj => absurd hj (by omega)⟩
    case round =>
      obtain ⟨k, hk, rfl, hg⟩ := hrel
      by_cases hlt : k < L.length
      · have hlt' : (k : Int) < L.length := by omega
        obtain ⟨b, off, rfl, _, hc⟩ := CL.out (by omega)
        have ck := hc k hlt
        have hst : Hid (L.getD k 0 = L.getD k 0) := Lib.hid rfl
        obtain ⟨y, hy⟩ : ∃ y, y = L.getD k 0 := ⟨_, rfl⟩
        rw [← hy] at ck
        replace hy := Lib.hid hy
        clear hc
        by_cases y0 : 0 ≤ y
        · by_cases y9 : y ≤ 1073741823
          · have hg' : Hid (∀ j, j < k + 1 → 0 ≤ L.getD j 0 ∧ L.getD j 0 ≤ 1073741823) := Lib.hid fun j hj => by
              by_cases e : j = k
              · subst e; rw [← hy.out]; exact ⟨y0, y9⟩
              · exact hg.out j (by omega)
            have y8 : y < 1073741824 := by omega
            go_wp2
            go_round
            case rel => exact ⟨k + 1, by omega, by go_num, hg'⟩
            case measure => simp [intOf]; omega
          · have y8 : 1073741824 ≤ y := by omega
            obtain rfl : r = false := by
              cases r
              · rfl
              · have := (hr.out.1 rfl).rng k hlt; rw [← hy.out] at this; omega
            go_wp2
            go_ret
            exact ⟨rfl, rfl⟩
        · have y8 : y < 0 := by omega
          obtain rfl : r = false := by
            cases r
            · rfl
            · have := (hr.out.1 rfl).rng k hlt; rw [← hy.out] at this; omega
          go_wp2
          go_ret
          exact ⟨rfl, rfl⟩
      · obtain rfl : k = L.length := by omega
        by_cases h0 : L.length = 0
        · obtain rfl : r = true := hr.out.2 ⟨h64, hg.out, .inl h0⟩
          have hz : ((L.length : Int) == 0) = true := by rw [h0]; rfl
          go_wp2
          go_ret
          exact ⟨rfl, rfl⟩
        · obtain ⟨b, off, rfl, _, hc⟩ := CL.out (by omega)
          have ck := hc (L.length - 1) (by omega)
          have hz : ((L.length : Int) == 0) = false := by rw [beq_eq_false_iff_ne]; omega
          obtain ⟨y, hy⟩ : ∃ y, y = L.getD (L.length - 1) 0 := ⟨_, rfl⟩
          rw [← hy] at ck
          have hyr : Hid ((y != 0) = r) := Lib.hid (by
            by_cases e : y = 0
            · have : r = false := by
                cases r
                · rfl
                · have := (hr.out.1 rfl).last; rw [← hy] at this; omega
              rw [e, this]; rfl
            · have : r = true := hr.out.2 ⟨h64, hg.out, .inr (by rw [← hy]; exact e)⟩
              rw [this]; simpa using e)
          replace hy := Lib.hid hy
          clear hc
          obtain ⟨q, hq⟩ : ∃ q, L.length = q + 1 := ⟨L.length - 1, by omega⟩
          rw [hq, Nat.add_sub_cancel] at ck
          rw [hq]
          rw [hq] at hz hnc
          replace hq := Lib.hid hq
          have e1 : ((q : Int) + 1 - 1).toNat = q := by omega
          have q9 : (q : Int) ≤ 100 := by have := hq.out; omega
          clear hk hlt h0 hg hr
          go_wp2
          go_ret
          refine ⟨?_, rfl⟩
          rw [hyr.out]
          show Ending.returned (.bool ((q : Int) + 1 == 0 || r)) = _
          have hq0 : ((q : Int) + 1 == 0) = false := by rw [beq_eq_false_iff_ne]; omega
          rw [hq0]; rfl
  · have h64' : (64 : Int) < L.length := by omega
    obtain rfl : r = false := by
      cases r
      · rfl
      · exact absurd (hr.out.1 rfl).small h64
    go_enter Try.func25, Try.ntmps25
    go_wp2
    go_ret
    exact ⟨rfl, rfl⟩
theorem compare_short (a : Option Addr) (n c g' : Nat) (w : World) (h : n ≤ 1) :
    Calls Try.prog 30 #[.slice a n c, .slice (some ⟨g', 0, none⟩) 3 3] w fun e w' => e = .returned (.int .i64 (-1)) ∧ w' = w := by
  go_enter Try.func30, Try.ntmps30
  go_wp2_with (go_at_call 33; refine (cmp_lt _ _ _ (by omega)).mono ?_; rintro e w1 ⟨rfl, rfl⟩)
  go_ret
  exact ⟨rfl, rfl⟩
set_option maxRecDepth 100000 in
set_option maxHeartbeats 2000000 in
theorem back1g_in (F : Fence) (n : Nat) (h7 : F.fn 34) (hro : F.round = none) (hn : 1 ≤ n) (l Bs N X : Nat) (a : Option Addr) (len cap : Nat) (zs : List Int) (h9 : len ≤ 1000) (hcap : len ≤ cap) (J Jx : List (Nat × Int) → World → Prop)
    (hY : ∀ pre x W, J pre W → pre.length < len → YieldAt F (n - 1) Try.prog l #[.int .i64 (x.1 : Int), .int .i64 x.2] W fun e W' =>
      (e = .returned (.bool true) ∧ J (pre ++ [x]) W' ∧ KX N X W W') ∨ (e = .returned (.bool false) ∧ Jx (pre ++ [x]) W'))
    (W : World) (hBs : W.cell? ⟨Bs, 0, none⟩ = some (.slice a len cap)) (hBl : Bs < N) (hBX : Bs ≠ X) (hc : 0 < len → ∃ b off, a = some ⟨b, off, none⟩ ∧ b < N ∧ b ≠ X ∧ ∀ j, j < len → W.cell? ⟨b, off + j, none⟩ = some (.int .i64 (zs[j]?.getD 0))) (h0 : J [] W) :
    CallsIn F n Try.prog 34 #[.func (.yield l) #[] #[], .pointer (some ⟨Bs, 0, none⟩)] W fun e W' => (∃ v, e = .returned v) ∧
      ((∃ ys, ys = upto (bk zs len) len ∧ J ys W') ∨ (∃ pre, (∃ k, k ≤ len ∧ pre = upto (bk zs len) k) ∧ Jx pre W')) := by
  refine callsIn_of_wp Try.func34 rfl h7 ?_ hro
  simp only [Try.ntmps34, List.size_toArray, List.length_cons, List.length_nil, Nat.reduceAdd, Nat.reduceSub, Array.replicate_succ, Array.replicate_zero, List.push_toArray, List.append_toArray, List.nil_append, List.cons_append]
  gi_wp2
  gi_loopw [3] (fun i wr => ∃ k : Nat, k ≤ len ∧ i = .int .i64 ((len : Int) - 1 - (k : Int)) ∧ J (upto (bk zs len) k) wr ∧ KX N X W wr)
    (fun i _ => (intOf i + 1).toNat)
  case atStart => exact ⟨0, Nat.zero_le _, by simp, h0, KX.refl _ _ _⟩
  case round =>
    obtain ⟨k, hk, rfl, hJs, hnx⟩ := hrel
    have hBs' := hnx.cell hBl hBX hBs
    by_cases hlt : k < len
    · obtain ⟨b, off, rfl, hb, hbX, hc⟩ := hc (by omega)
      have hcx : wr.cell? ⟨b, off + (len - 1 - k), none⟩ = some (.int .i64 (zs[len - 1 - k]?.getD 0)) := hnx.cell hb hbX (hc _ (by omega))
      obtain ⟨fn, tmps, assign, body, hy, hR⟩ := hY _ (bk zs len k) wr hJs (by rw [upto_length]; exact hlt)
      have hbk : bk zs len k = (len - 1 - k, zs[len - 1 - k]?.getD 0) := rfl
      have hup := upto_succ (bk zs len) k
      rw [hbk] at hy hR hup
      replace hup := Lib.hid hup
      clear hbk
      dsimp only at hy
      have e1 : (len : Int) - 1 - (k : Int) = ((len - 1 - k : Nat) : Int) := by omega
      generalize zs[len - 1 - k]?.getD 0 = z at *
      rw [e1]
      obtain ⟨q, hq⟩ : ∃ q, q = len - 1 - k := ⟨_, rfl⟩
      rw [← hq] at hcx hy hR hup e1 ⊢
      have hq1 : (q : Int) ≤ (len : Int) - 1 - (k : Int) := by omega
      have hq2 : (len : Int) - 1 - (k : Int) ≤ (q : Int) := by omega
      have hqq := Lib.hid hq
      clear hq
      replace e1 := Lib.hid e1
      have hqc : q < len := by omega
      gi_wp2
      refine hR.mono ?_
      rintro e W3 (⟨rfl, hJ3, hk3⟩ | ⟨rfl, hJx3⟩)
      · gi_wp2
        go_roundw
        case rel => exact ⟨k + 1, by omega, by (congr 1; push_cast; omega), by rw [hup.out]; exact hJ3, hnx.trans hk3⟩
        case measure => simp [intOf]
      · gi_wp2
        refine bodyPost_ret (results_none rfl _ _ _) rfl ?_
        exact ⟨⟨_, rfl⟩, .inr ⟨_, ⟨k + 1, by omega, hup.out.symm⟩, hJx3⟩⟩
    · obtain rfl : k = len := by omega
      gi_wp2
      go_end0
      exact ⟨⟨_, rfl⟩, .inl ⟨_, rfl, hJs⟩⟩
theorem back_stops_g (F : Fence) (n : Nat) (h7 : F.fn 34) (hro : F.round = none) (hn : 1 ≤ n) (Bs N X : Nat) (a : Option Addr) (len cap : Nat) (zs : List Int) (h9 : len ≤ 1000) (hcap : len ≤ cap) (hBl : Bs < N) (hBX : Bs ≠ X) (w : World) (hN : N ≤ w.heap.size)
    (hBs : w.cell? ⟨Bs, 0, none⟩ = some (.slice a len cap)) (hc : 0 < len → ∃ b off, a = some ⟨b, off, none⟩ ∧ b < N ∧ b ≠ X ∧ ∀ j, j < len → w.cell? ⟨b, off + j, none⟩ = some (.int .i64 (zs[j]?.getD 0))) :
    SeqStopsK F n Try.prog 34 #[.pointer (some ⟨Bs, 0, none⟩)] (fun x : Nat × Int => #[Value.int .i64 (x.1 : Int), Value.int .i64 x.2]) (KX N X) (fun ys => ys = upto (bk zs len) len)
      (fun pre => ∃ k, k ≤ len ∧ pre = upto (bk zs len) k) len w := fun l J Jx W hW _ _ hY h0 => by
  have hBs' := (hW.cell (p := ⟨Bs, 0, none⟩) (by show Bs < _; omega)).trans hBs
  exact back1g_in F n h7 hro hn l Bs N X a len cap zs h9 hcap J Jx hY W hBs' hBl hBX (fun h => by
    obtain ⟨b, off, e, h1, h2, h3⟩ := hc h
    exact ⟨b, off, e, h1, h2, fun j hj => (hW.cell (p := ⟨b, off + j, none⟩) (by show b < _; omega)).trans (h3 j hj)⟩) h0
set_option maxRecDepth 100000 in
set_option maxHeartbeats 4000000 in
theorem int_small_in (a : Option Addr) (n c : Nat) (L : List Int) (w : World) (hs : SA w a n c L) (hv : Ok L) (h1n : n ≤ 1) :
    CallsIn Fence.wide 6 Try.prog 26 #[.slice a n c] w fun e W' => e = .returned (.tuple #[.int .i64 (accW (upto (bk L n) n)), .int .i64 0]) ∧ Below w.heap.size w W' := by
  have hro : Fence.wide.round = none := rfl
  have V := Lib.hid (valid_g true hs (Lib.hid ⟨fun _ => hv, fun _ => rfl⟩))
  have C := Lib.hid fun w' g' => compare_short a n c g' w' h1n
  have hnc : n ≤ c := hs.nc
  have CL := Lib.hid hs.cells'
  clear hs hv
  refine callsIn_of_wp_marks Try.func26 rfl trivial ?_ hro
  simp only [Try.ntmps26, List.size_toArray, List.length_cons, List.length_nil, Nat.reduceAdd, Nat.reduceSub, Array.replicate_succ, Array.replicate_zero, List.push_toArray, List.append_toArray, List.nil_append, List.cons_append]
  gi_wp2
  refine ⟨trivial, (callsIn_wide.2 V.out).mono ?_⟩
  rintro e w1 ⟨rfl, rfl⟩
  gi_wp2
  refine ⟨trivial, (callsIn_wide.2 (C.out _ _)).mono ?_⟩
  rintro e w2 ⟨rfl, rfl⟩
  obtain ⟨w2, hw2⟩ : ∃ w2, w2 = w1.alloc (.cells #[.int .i64 0, .int .i64 0, .int .i64 4] 3) := ⟨_, rfl⟩
  have W2 : Hid (Below w1.heap.size w1 w2) := Lib.hid (by rw [hw2]; exact (Below.refl _ _).alloc (Nat.le_refl _) _)
  have Z2 : w1.heap.size < w2.heap.size := by rw [hw2]; simp
  rw [← hw2]
  replace hw2 := Lib.hid hw2
  clear V C
  gi_wp2
  refine ⟨trivial, (back_in Fence.wide _ trivial rfl _ _ _ _).mono ?_⟩
  rintro e w3 ⟨rfl, rfl⟩
  have bX := Boxed.new w2 3 (.int .i64 0)
  have bN := Boxed.new (w2.alloc (.cells #[.int .i64 0] 3)) 26 (.slice a n c)
  rw [World.size_alloc] at bN
  have hB0 : Below w1.heap.size w1 ((w2.alloc (.cells #[.int .i64 0] 3)).alloc (.cells #[.slice a n c] 26)) := (W2.out.alloc (by omega) _).alloc (by simp; omega) _
  have CL' := Lib.hid fun h0 : 0 < n => by
    obtain ⟨b, off, e, hb, hc⟩ := CL.out h0
    exact (⟨b, off, e, by omega, by omega, fun j hj => (hB0.cell (p := ⟨b, off + j, none⟩) hb).trans (hc j hj)⟩ : ∃ b off, a = some ⟨b, off, none⟩ ∧ b < w2.heap.size + 1 + 1 ∧ b ≠ w2.heap.size ∧ ∀ j, j < n → ((w2.alloc (.cells #[.int .i64 0] 3)).alloc (.cells #[.slice a n c] 26)).cell? ⟨b, off + j, none⟩ = some (.int .i64 (L[j]?.getD 0)))
  gi_wp2
  refine wpIn_rangeFunc_ownG hro (by decide) (gf := 34) (lb := #[.pointer (some ⟨w2.heap.size + 1, 0, none⟩)]) rfl trivial (enters_of Try.func34 (by kernel_rfl) rfl)
    (back_stops_g Fence.wide 5 trivial rfl (by omega) (w2.heap.size + 1) (w2.heap.size + 1 + 1) w2.heap.size a n c L (by omega) hnc (by omega) (by omega) _ (by simp) bN.cell CL'.out) (fun h k => KX.trans h k) (fun W l o o' hl hk h1 h2 => ⟨(belowK_b (n₀ := w2.heap.size + 1 + 1) (by simp) W l o o' hl hk h1 h2).size, fun k h3 _ => (belowK_b (n₀ := w2.heap.size + 1 + 1) (by simp) W l o o' hl hk h1 h2).block k h3⟩) (Below.refl _ _) (fun _ => rfl)
    (fun pre W => (W.cell? ⟨w2.heap.size, 0, none⟩ = some (.int .i64 (accW pre)) ∧ W.frozen? ⟨w2.heap.size, 0, none⟩ = false) ∧ Below w1.heap.size w1 W)
    (fun _ _ _ => False)
    (OwnFrom.and (Own.from (fun s A B row hs hg hr => ⟨cell_kept hs.1 hg hr, (frozen_kept hs.1 hg hr).trans hs.2⟩) _) (ownFrom_below (by omega) (by simp; omega)))
    (fun _ _ _ _ _ hs _ _ => hs)
    ⟨⟨(bX.alloc _).cell, (bX.alloc _).frozen⟩, hB0⟩
    (fun x => { tmps := #[.slice a n c, undef, .int .i64 0, .int .i64 0, .pointer (some ⟨w2.heap.size, 0, none⟩), undef, .int .i64 x.2, .slice a n c, .bool true, .bool false, .slice a n c, .slice (some ⟨w1.heap.size, 0, none⟩) 3 3, .int .i64 (-1), .bool false, .slice a n c, .func (.func 34) #[] #[.pointer (some ⟨w2.heap.size + 1, 0, none⟩)], .int .i64 (x.1 : Int), .int .i64 x.2, undef, undef, undef, undef, undef], defers := [] }) ?assign ?body ?done ?stop
  case assign =>
    intro l x W K hK
    gi_wp2
    exact hK
  case body =>
    rintro l pre x W ⟨⟨hc, hf⟩, hB⟩ _
    gi_wp2
    exact ⟨(KeepsOthers.setCell _ _ _).from _, KX.set _ _ _ _ _, ⟨by rw [accW_snoc]; exact World.cell?_setCell_same' _ _ _ (by rw [hc]; rfl), by rw [World.frozen?_setCell]; exact hf⟩, hB.setCell (p := ⟨w2.heap.size, 0, none⟩) (by show _ ≤ w2.heap.size; omega) _⟩
  case done =>
    rintro D ys W hD rfl ⟨⟨hc, hf⟩, hB⟩ hK
    gi_wp2
    refine ⟨by simp, .inl ⟨_, _, rfl, run_takeDeferred hK, ?_⟩⟩
    refine ⟨.tuple #[.int .i64 (accW (upto (bk L n) n)), .int .i64 0], ?_, rfl, hB.trans (belowK_b (w := w1) (Nat.le_refl _) W D _ _ (by simp at hD; omega) hK rfl rfl)⟩
    simp [results, Try.results26, go_sem]
  case stop =>
    rintro D c' pre W _ _ h _
    exact h.elim
theorem int_small_one (a : Option Addr) (c : Nat) (L : List Int) (w : World) (hs : SA w a 1 c L) (hv : Ok L) :
    Calls Try.prog 26 #[.slice a 1 c] w fun e W' => e = .returned (.tuple #[.int .i64 (L.getD 0 0), .int .i64 0]) ∧ Below w.heap.size w W' := by
  have h := int_small_in a 1 c L w hs hv (Nat.le_refl _)
  have hl := hs.len
  have r := hv.rng 0 (by omega)
  have e : val L = L.getD 0 0 := by
    unfold val; rw [hl]
    show 0 + L.getD 0 0 * B ^ 0 = _
    rw [show B ^ 0 = 1 by decide]; omega
  rw [accW_val L 1 (hv.vl (by omega)) hl.symm (by omega), e] at h
  exact callsIn_wide.1 h
theorem int_small_nil (a : Option Addr) (c : Nat) (L : List Int) (w : World) (hs : SA w a 0 c L) (hv : Ok L) :
    Calls Try.prog 26 #[.slice a 0 c] w fun e W' => e = .returned (.tuple #[.int .i64 0, .int .i64 0]) ∧ Below w.heap.size w W' :=
  callsIn_wide.1 (int_small_in a 0 c L w hs hv (Nat.zero_le _))
end Nat'
end Go.Proofs.Ytkfjcanipmhanaa
