/- The walk of LogarithmSteps. -/
import Derived.Test.YtkfjcanipmhanaaLogI
import Derived.Test.YtkfjcanipmhanaaSrc
import Derived.Deep.RegionHeld3
set_option linter.unusedVariables false
namespace Go.Proofs.Ytkfjcanipmhanaa
open Go.RowKit
namespace Laws
open Nat' Log
theorem own_grown {B d : Nat} {w w' : World} {v : Value} {xs : List Value} (h : Buf.Own B w v xs) (hg : w.grownBy w' (some d)) (hd : d < B) : Buf.Own B w' v xs := by
  rcases h with h | ⟨g, cap, e, hb⟩
  · exact .inl h
  · exact .inr ⟨g, cap, e, hb.of_block (hg.block g hb.lt (by have := hb.base; simp; omega)) hg.size⟩
theorem own_c0 {B : Nat} {w : World} {g c : Nat} {H : List Int} (h : Buf.Own B w (.slice (some ⟨g, 0, none⟩) H.length c) (iv H)) (h1 : 1 ≤ H.length) (h9 : H.length ≤ 9) : w.cell? ⟨g, 0, none⟩ = some (.int .i64 (H.getD 0 0)) := (Sl.of_own h h1 (by omega)).cells 0 h1
theorem sa_own {B : Nat} {w : World} {g n c : Nat} {L : List Int} (h : Buf.Own B w (.slice (some ⟨g, 0, none⟩) n c) (iv L)) (hn : n = L.length) (h0 : 0 < n) (h1 : n ≤ 100) (m : Nat) (hm : m ≤ n) : SA w (some ⟨g, 0, none⟩) m c (L.take m) := by
  obtain ⟨g', c', e, _, hl, hc, _⟩ := h.parts (by rw [iv_length]; omega)
  injection e with e1 e2 e3
  injection e1 with e1
  injection e1 with e1
  subst e1 e3
  rw [iv_length] at hl
  refine ⟨by simp; omega, by omega, by omega, fun _ => ⟨g, 0, rfl, World.block_lt_of_cell? w ⟨g, 0, none⟩ (hc 0 (by rw [iv_length]; omega)), fun j hj => ?_⟩⟩
  rw [Nat.zero_add, hc j (by rw [iv_length]; omega)]
  simp [iv, List.getD, show j < L.length by omega, hj]
theorem sa_row {w : World} {a : Option Addr} {len cap : Nat} {zs : List Int} (h : Buf.IsRow .i64 w a len cap zs) (h100 : len ≤ 100) : SA w a len cap (zs.take len) := by
  rcases h with ⟨rfl, rfl, rfl, rfl⟩ | ⟨x, rfl, hlc, hcm, hzl, hcell, hwf⟩
  · exact ⟨rfl, Nat.le_refl _, by omega, fun h => absurd h (by omega)⟩
  · refine ⟨by simp; omega, hlc, h100, fun h0 => ?_⟩
    obtain ⟨b, off, rfl, hc⟩ := ints_at hcell (by omega)
    refine ⟨b, off, rfl, World.block_lt_of_cell? w ⟨b, off + 0, none⟩ (hc 0 (by omega)), fun j hj => ?_⟩
    rw [hc j (by omega)]
    simp [List.getD, show j < zs.length by omega, hj]
set_option maxHeartbeats 8000000 in
set_option maxRecDepth 100000 in
theorem logarithmSteps_walk (a0 : Int) (a1 : Option Addr) (len1 cap1 : Nat) (z1 : List Int) (a2 : Option Addr) (len2 cap2 : Nat) (z2 : List Int) (w : World) (w0 : (Lit.int .i64 a0).wf = true) (w1 : Buf.IsRow .i64 w a1 len1 cap1 z1) (w2 : Buf.IsRow .i64 w a2 len2 cap2 z2) :
    Calls Try.prog 3 #[.int .i64 a0, .slice a1 len1 cap1, .slice a2 len2 cap2] w fun e w' => e = .returned (.bool true) ∧ Below w.heap.size w w' := by
  obtain ⟨i0, hi, hz0, hz1, hz2⟩ := info_parts infoI
  obtain ⟨A0, A9⟩ := Ma.wf_i64 w0
  clear w0
  by_cases h100 : len1 ≤ 100
  · have hd : (len1 : Int) ≤ 100 := by omega
    have RAW := Lib.hid (sa_row w1 h100)
    clear w1
    go_enter Try.func3, Try.ntmps3
    go_wp2_with fail
    refine (Src.new_any a2 len2 cap2 z2 w w2).mono ?_
    rintro e0 wA ⟨rfl, m0, hdi⟩
    have L0 := Lib.hid (Src.Left.refl hdi)
    clear hdi w2
    go_wp2_with fail
    refine (Src.n_any _ L0.out.di (by omega) (by omega)).mono ?_
    rintro e0 wB ⟨⟨t, rfl, t0, t9⟩, hl⟩
    replace L0 := Lib.hid (L0.out.trans hl)
    have ltB := L0.out.di.lt
    have HB := Lib.hid L0.out.di
    have LB := Lib.hid (Src.Left.refl HB.out)
    clear hl L0
    go_wp2_with fail
    go_loopw [8, 9] (fun v u wr => ∃ (G : List Int) (t : Int), u = .int .i64 t ∧ 0 ≤ t ∧ (G.length : Int) + t ≤ 8 ∧ Hid (Buf.Own wB.heap.size wr v (iv G)) ∧ wB.heap.size ≤ wr.heap.size ∧ Hid (Src.Left w wB wr w.heap.size a2 m0 cap2 z2)) (fun _ u _ => (intOf u).toNat)
    case atStart => exact ⟨[], 1 + t, rfl, by omega, by simp; omega, Lib.hid (Buf.Own.nil _ _), Nat.le_refl _, LB⟩
    case round =>
      clear LB
      obtain ⟨G, t, rfl, t0, tj, hown, hz, L0⟩ := hrel
      by_cases ht : 0 < t
      · go_wp2_with fail
        refine (Src.n_any _ L0.out.di (by omega) (by omega)).mono ?_
        rintro e0 w3 ⟨⟨x, rfl, x0, x9⟩, hl⟩
        replace hown := Lib.hid (own_grown hown.out hl.far ltB)
        have hz3 : wB.heap.size ≤ w3.heap.size := by have := hl.far.size; omega
        replace L0 := Lib.hid (L0.out.trans hl)
        clear hl
        go_wp2_with (at_builtin; refine Buf.wpList_append_one rfl _ _ 26 rfl 3 _ i0 (.int .i64 0) 8 Try.underlying26 hi hz0 hz1 hz2 rfl rfl hown.out (Below.refl wB.heap.size w3) hz3 (.int .i64 x) rfl rfl (by rw [iv_length]; unfold maxLen; omega) (by rw [iv_length]; omega) ?_; intro v' w' hown' hb' hsz; replace hown' := Lib.hid hown'; replace hb' := Lib.hid hb')
        go_roundw
        case rel => exact ⟨G ++ [x], t - 1, rfl, by omega, by simp; omega, Lib.hid (by have := hown'.out; simpa [iv] using this), by omega, Lib.hid (Src.Left.past HB.out L0.out hb'.out)⟩
        case measure => simp [intOf]; omega
      · obtain rfl : t = 0 := by omega
        clear ht
        go_wp2_with fail
        refine (Src.n_any _ L0.out.di (by omega) (by omega)).mono ?_
        rintro e0 w3 ⟨⟨x, rfl, x0, x9⟩, hl⟩
        replace hown := Lib.hid (own_grown hown.out hl.far ltB)
        have hz3 : wB.heap.size ≤ w3.heap.size := by have := hl.far.size; omega
        replace L0 := Lib.hid (L0.out.trans hl)
        clear hl
        go_wp2_with (at_builtin; refine Buf.wpList_append_one rfl _ _ 26 rfl 3 _ i0 (.int .i64 0) 8 Try.underlying26 hi hz0 hz1 hz2 rfl rfl hown.out (Below.refl wB.heap.size w3) hz3 (.int .i64 (1 + x)) rfl rfl (by rw [iv_length]; unfold maxLen; omega) (by rw [iv_length]; omega) ?_; intro v' w4 hown' hb' hsz; replace hown' := Lib.hid hown'; replace hb' := Lib.hid hb')
        replace L0 := Lib.hid (Src.Left.past HB.out L0.out hb'.out)
        have OW : Hid (Buf.Own wB.heap.size w4 v' (iv (G ++ [1 + x]))) := Lib.hid (by have := hown'.out; simpa [iv] using this)
        have hG : (G ++ [1 + x]).length ≤ 9 := by simp; omega
        have hG1 : 1 ≤ (G ++ [1 + x]).length := by simp
        clear hown hown' hb' hz hz3 hsz x0 x9 tj t0
        generalize G ++ [1 + x] = H at *
        obtain ⟨g, c, rfl, _, hHc, _⟩ := OW.out.parts (show 0 < (iv H).length by rw [iv_length]; omega)
        rw [iv_length] at OW hHc ⊢
        go_wp2_with fail
        refine (Src.n_any _ L0.out.di (by omega) (by omega)).mono ?_
        rintro e0 w5 ⟨⟨p, rfl, p0, p9⟩, hl⟩
        replace OW := Lib.hid (own_grown OW.out hl.far ltB)
        replace L0 := Lib.hid (L0.out.trans hl)
        clear hl
        go_wp2_with fail
        refine (Src.n_any _ L0.out.di (by omega) (by omega)).mono ?_
        rintro e0 w6 ⟨⟨q, rfl, q0, q9⟩, hl⟩
        replace OW := Lib.hid (own_grown OW.out hl.far ltB)
        replace L0 := Lib.hid (L0.out.trans hl)
        clear hl
        have IN : Hid (Src.Ints (w6.alloc (.cells #[.int .i64 a0, .int .i64 p, .int .i64 q, .int .i64 0, .int .i64 (-1)] 3)) w6.heap.size [a0, p, q, 0, -1]) := Lib.hid (by simpa using Src.ints_alloc w6 [a0, p, q, 0, -1] 3)
        have OB : Hid (∀ k, k < 5 → -9223372036854775808 ≤ [a0, p, q, 0, -1].getD k 0 ∧ [a0, p, q, 0, -1].getD k 0 ≤ 9223372036854775807) := Lib.hid fun k hk => by
          rcases (by omega : k = 0 ∨ k = 1 ∨ k = 2 ∨ k = 3 ∨ k = 4) with rfl | rfl | rfl | rfl | rfl <;> simp <;> omega
        have hN := (Below.refl w6.heap.size w6).alloc (Nat.le_refl _) (.cells #[.int .i64 a0, .int .i64 p, .int .i64 q, .int .i64 0, .int .i64 (-1)] 3)
        replace OW := Lib.hid (OW.out.below hN)
        replace L0 := Lib.hid (L0.out.below hN)
        clear hN A0 A9
        go_wp2_with fail
        generalize w6.alloc (.cells #[.int .i64 a0, .int .i64 p, .int .i64 q, .int .i64 0, .int .i64 (-1)] 3) = w7 at *
        go_loop [53] (fun i => ∃ k : Nat, k ≤ 5 ∧ i = .int .i64 k) (fun i => (5 - intOf i).toNat)
        case atStart => exact ⟨0, by omega, rfl⟩
        case round =>
          obtain ⟨k, hk, rfl⟩ := hrel
          by_cases hlt : k < 5
          · have hlt' : (k : Int) < 5 := by omega
            have ck := IN.out k (by simpa using hlt)
            obtain ⟨o0, o9⟩ := OB.out k hlt
            generalize [a0, p, q, 0, -1].getD k 0 = o at ck o0 o9
            obtain ⟨lx, ly, l1, l2⟩ := log_same o o9
            obtain ⟨fv, fu, f1, f2, f3, f4⟩ := floor_same o o0 o9
            replace l1 := Lib.hid l1
            replace l2 := Lib.hid l2
            replace f1 := Lib.hid f1
            replace f2 := Lib.hid f2
            replace f3 := Lib.hid f3
            replace f4 := Lib.hid f4
            have n1 : (lx != lx) = false := by simp
            have n2 : (ly != ly) = false := by simp
            have n3 : (fv != fv) = false := by simp
            have n4 : (fu != fu) = false := by simp
            clear o0 o9
            go_wp2_with (first
              | (go_at_call 8; (with_reducible refine (l1.out _).mono ?_); rintro e w' ⟨rfl, rfl⟩)
              | (go_at_call 9; (with_reducible refine (l2.out _).mono ?_); rintro e w' ⟨rfl, rfl⟩)
              | (go_at_call 10; (with_reducible refine (f1.out _).mono ?_); rintro e w' ⟨rfl, rfl⟩)
              | (go_at_call 11; (with_reducible refine (f2.out _).mono ?_); rintro e w' ⟨rfl, rfl⟩)
              | (go_at_call 12; (with_reducible refine (f3.out _).mono ?_); rintro e w' ⟨rfl, rfl⟩)
              | (go_at_call 13; (with_reducible refine (f4.out _).mono ?_); rintro e w' ⟨rfl, rfl⟩))
            go_round
            case rel => exact ⟨k + 1, by omega, by go_num⟩
            case measure => simp [intOf]; omega
          · obtain rfl : k = 5 := by omega
            clear hk hlt IN OB
            have hH1 : (1 : Int) ≤ H.length := by omega
            have hH9 : (H.length : Int) ≤ 9 := by omega
            have hHc' : (H.length : Int) ≤ c := by omega
            have kc := own_c0 OW.out hG1 hG
            go_wp2_with fail
            go_region_held3 (fun w' => w'.cell? ⟨g, 0, none⟩ = some (.int .i64 (H.getD 0 0))) (first | (with_reducible assumption) | go_keep)
              ((first
                | (go_at_call 7; (with_reducible refine (Src.n_any (H.length : Int) L0.out.di (by omega) (by omega)).mono ?_); rintro r w8 ⟨⟨x, rfl, x0, x9⟩, hl1⟩; have L1 := Lib.hid (L0.out.trans hl1); have OW1 := Lib.hid (own_grown OW.out hl1.far ltB); have kc1 := own_c0 OW1.out hG1 hG; obtain ⟨X, rfl⟩ := Int.eq_ofNat_of_zero_le x0; have fx : IntKind.i64.wrap (1 + (X : Int)) = 1 + (X : Int) := IntWalk.i64_in _ (by omega); have gx0 : (0 : Int) ≤ 1 + (X : Int) := (by omega); have gx1 : 1 + (X : Int) ≤ (c : Int) := (by omega); have tx : (1 + (X : Int)).toNat = X + 1 := (by omega))
                | (go_at_call 7; (with_reducible refine (Src.n_any (H.length : Int) (L0.out.below (Below.refl _ _).drew).di (by omega) (by omega)).mono ?_); rintro r w8 ⟨⟨x, rfl, x0, x9⟩, hl1⟩; have L1 := Lib.hid ((L0.out.below (Below.refl _ _).drew).trans hl1); have OW1 := Lib.hid (own_grown OW.out.drew hl1.far ltB); have kc1 := own_c0 OW1.out hG1 hG; obtain ⟨X, rfl⟩ := Int.eq_ofNat_of_zero_le x0; have fx : IntKind.i64.wrap (1 + (X : Int)) = 1 + (X : Int) := IntWalk.i64_in _ (by omega); have gx0 : (0 : Int) ≤ 1 + (X : Int) := (by omega); have gx1 : 1 + (X : Int) ≤ (c : Int) := (by omega); have tx : (1 + (X : Int)).toNat = X + 1 := (by omega))
                | (go_at_call 7; (with_reducible refine (Src.n_any 4 L1.out.di (by omega) (by omega)).mono ?_); rintro r w9 ⟨⟨y, rfl, y0, y9⟩, hl2⟩; have L2 := Lib.hid (L1.out.trans hl2); have OW2 := Lib.hid (own_grown OW1.out hl2.far ltB); have kc2 := own_c0 OW2.out hG1 hG)
                | (go_at_call 7; (with_reducible refine (Src.n_any 4 (L1.out.below (Below.refl _ _).drew).di (by omega) (by omega)).mono ?_); rintro r w9 ⟨⟨y, rfl, y0, y9⟩, hl2⟩; have L2 := Lib.hid ((L1.out.below (Below.refl _ _).drew).trans hl2); have OW2 := Lib.hid (own_grown OW1.out.drew hl2.far ltB); have kc2 := own_c0 OW2.out hG1 hG)))
            have hN1 := (Below.refl w9.heap.size w9).alloc (Nat.le_refl _) (.cells #[.int .i64 y] 3)
            have hN2 := (Below.refl (w9.alloc (.cells #[.int .i64 y] 3)).heap.size (w9.alloc (.cells #[.int .i64 y] 3))).alloc (Nat.le_refl _) (.cells #[.slice a1 len1 cap1, .slice (some ⟨g, 0, none⟩) H.length c, .slice (some ⟨g, 0, none⟩) (X + 1) c, .slice (some ⟨w9.heap.size, 0, none⟩) 1 1] 26)
            have hW9 := L2.out.di.bel
            have O3 := (OW2.out.below hN1).below hN2
            have r1 := RAW.out.below (Buf.then_ (Buf.then_ hW9 hN1) hN2)
            have s1 := sa_own O3 rfl (by omega) (by omega) H.length (Nat.le_refl _)
            have s2 := sa_own O3 rfl (by omega) (by omega) (X + 1) (by omega)
            have s3 : SA ((w9.alloc (.cells #[.int .i64 y] 3)).alloc (.cells #[.slice a1 len1 cap1, .slice (some ⟨g, 0, none⟩) H.length c, .slice (some ⟨g, 0, none⟩) (X + 1) c, .slice (some ⟨w9.heap.size, 0, none⟩) 1 1] 26)) (some ⟨w9.heap.size, 0, none⟩) 1 1 [y] := by
              have t1 : SA (w9.alloc (.cells #[.int .i64 y] 3)) (some ⟨w9.heap.size, 0, none⟩) 1 1 [y] := ⟨rfl, Nat.le_refl _, by omega, fun _ => ⟨w9.heap.size, 0, rfl, by simp, fun j hj => by
                obtain rfl : j = 0 := by omega
                exact (World.cell?_alloc_mark w9 _ _ _ _).trans rfl⟩⟩
              exact t1.below hN2
            have hsz9 : (w9.alloc (.cells #[.int .i64 y] 3)).heap.size = w9.heap.size + 1 := by simp
            have cellAt : ∀ k v, #[Value.slice a1 len1 cap1, .slice (some ⟨g, 0, none⟩) H.length c, .slice (some ⟨g, 0, none⟩) (X + 1) c, .slice (some ⟨w9.heap.size, 0, none⟩) 1 1][k]? = some v → ((w9.alloc (.cells #[.int .i64 y] 3)).alloc (.cells #[.slice a1 len1 cap1, .slice (some ⟨g, 0, none⟩) H.length c, .slice (some ⟨g, 0, none⟩) (X + 1) c, .slice (some ⟨w9.heap.size, 0, none⟩) 1 1] 26)).cell? ⟨w9.heap.size + 1, k, none⟩ = some v := fun k v hv => by
              rw [← hsz9]; exact (World.cell?_alloc_mark (w9.alloc (.cells #[.int .i64 y] 3)) _ _ _ k).trans hv
            have hE : Hid (∀ k, k < 4 → ∃ a n c' L, ((w9.alloc (.cells #[.int .i64 y] 3)).alloc (.cells #[.slice a1 len1 cap1, .slice (some ⟨g, 0, none⟩) H.length c, .slice (some ⟨g, 0, none⟩) (X + 1) c, .slice (some ⟨w9.heap.size, 0, none⟩) 1 1] 26)).cell? ⟨w9.heap.size + 1, k, none⟩ = some (.slice a n c') ∧ SA ((w9.alloc (.cells #[.int .i64 y] 3)).alloc (.cells #[.slice a1 len1 cap1, .slice (some ⟨g, 0, none⟩) H.length c, .slice (some ⟨g, 0, none⟩) (X + 1) c, .slice (some ⟨w9.heap.size, 0, none⟩) 1 1] 26)) a n c' L) := Lib.hid fun k hk => by
              rcases (by omega : k = 0 ∨ k = 1 ∨ k = 2 ∨ k = 3) with rfl | rfl | rfl | rfl
              · exact ⟨_, _, _, _, cellAt 0 _ rfl, r1⟩
              · exact ⟨_, _, _, _, cellAt 1 _ rfl, s1⟩
              · exact ⟨_, _, _, _, cellAt 2 _ rfl, s2⟩
              · exact ⟨_, _, _, _, cellAt 3 _ rfl, s3⟩
            have hW := Lib.hid (Buf.then_ (Buf.then_ hW9 hN1) hN2)
            clear hN1 hN2 hW9 O3 r1 s1 s2 s3 hsz9 cellAt L0 L1 L2 OW OW1 OW2 kc kc1 kc2 hl1 hl2 fx tx RAW HB
            go_wp2_with fail
            generalize (w9.alloc (.cells #[.int .i64 y] 3)).alloc (.cells #[.slice a1 len1 cap1, .slice (some ⟨g, 0, none⟩) H.length c, .slice (some ⟨g, 0, none⟩) (X + 1) c, .slice (some ⟨w9.heap.size, 0, none⟩) 1 1] 26) = W0 at *
            go_loopw [104] (fun i wr => ∃ k : Nat, k ≤ 4 ∧ i = .int .i64 k ∧ Hid (Below W0.heap.size W0 wr)) (fun i _ => (4 - intOf i).toNat)
            case atStart => exact ⟨0, by omega, rfl, Lib.hid (Below.refl _ _)⟩
            case round =>
              obtain ⟨k, hk, rfl, hb⟩ := hrel
              by_cases hlt : k < 4
              · have hlt' : (k : Int) < 4 := by omega
                obtain ⟨a, n, c', L, hcell, hsa⟩ := hE.out k hlt
                have ck : wr.cell? ⟨w9.heap.size + 1, k, none⟩ = some (.slice a n c') := (hb.out.cell (p := ⟨w9.heap.size + 1, k, none⟩) (World.block_lt_of_cell? W0 _ hcell)).trans hcell
                have hs := hsa.below hb.out
                obtain ⟨lx, ly, hsame⟩ := logNat_same n c' L hs.len
                have c1 := Lib.hid (hsame wr a hs).1
                have c2 := Lib.hid fun w' (h : Below wr.heap.size wr w') => (hsame w' a (hs.below h)).2
                have n1 : (lx != lx) = false := by simp
                have n2 : (ly != ly) = false := by simp
                clear hcell hsa hs hsame
                go_wp2_with fail
                refine c1.out.mono ?_
                rintro e w10 ⟨rfl, hc⟩
                have c3 := Lib.hid (c2.out _ hc)
                replace hc := Lib.hid hc
                go_wp2_with fail
                refine c3.out.mono ?_
                rintro e w11 ⟨rfl, hc'⟩
                replace hb := Lib.hid (Buf.then_ (Buf.then_ hb.out hc.out) hc')
                clear hc hc' c1 c2 c3 ck
                go_wp2
                go_roundw
                case rel => exact ⟨k + 1, by omega, by go_num, hb⟩
                case measure => simp [intOf]; omega
              · obtain rfl : k = 4 := by omega
                replace hW := Lib.hid (Buf.then_ hW.out hb.out)
                clear hb hE
                go_wp2_with fail
                refine (Log.awake_any _).mono ?_
                rintro e w12 ⟨rfl, hc⟩
                replace hW := Lib.hid (Buf.then_ hW.out hc)
                clear hc
                go_wp2_with fail
                go_ret
                exact ⟨rfl, hW.out⟩
  · have hd : (100 : Int) < len1 := by omega
    go_enter Try.func3, Try.ntmps3
    go_wp2_with fail
    refine (Log.awake_any _).mono ?_
    rintro e w9 ⟨rfl, hc⟩
    replace hc := Lib.hid hc
    go_wp2_with fail
    go_ret
    exact ⟨rfl, hc.out⟩
end Laws
end Go.Proofs.Ytkfjcanipmhanaa
