/- unpack. -/
import Derived.Test.YtfebacopbacopaaDoorStmK
set_option linter.unusedVariables false
set_option linter.unusedSimpArgs false
namespace Go.Proofs.YtfebacopbacopaaDoor
open Go.RowKit Dice Ri Rk
namespace St
theorem unr_get (wd : Nat) : ∀ (c : Nat) (v : Int) (j : Nat), j < c → (unr wd v c)[j]? = some (Ma.sg (v / 2 ^ ((c - 1 - j) * wd) % 2 ^ wd) (2 ^ (wd - 1)) (2 ^ wd))
  | 0, v, j, h => by omega
  | c + 1, v, j, h => by
    show (unr wd (v / 2 ^ wd) c ++ [_])[j]? = _
    by_cases hj : j < c
    · rw [List.getElem?_append_left (by rw [unr_length]; exact hj), unr_get wd c _ j hj, Int.ediv_ediv_of_nonneg (Int.le_of_lt (Int.pow_pos (by decide))), ← Int.pow_add]
      have : wd + (c - 1 - j) * wd = (c + 1 - 1 - j) * wd := by
        rw [show c + 1 - 1 - j = (c - 1 - j) + 1 by omega, Nat.add_mul, Nat.one_mul, Nat.add_comm]
      rw [this]
    · obtain rfl : j = c := by omega
      rw [List.getElem?_append_right (by rw [unr_length]; exact Nat.le_refl _), unr_length, Nat.sub_self, show j + 1 - 1 - j = 0 by omega, Nat.zero_mul]
      simp
theorem cnt_le (c : Nat) : cnt c ≤ 4 := by
  rcases (show c = 1 ∨ c = 2 ∨ c = 3 ∨ c = 0 ∨ 4 ≤ c by omega) with rfl | rfl | rfl | rfl | h
  · decide
  · decide
  · decide
  · decide
  · match c, h with
    | n + 4, _ => simp [cnt]
theorem un_length (p : Nat × Int) : (un p).length = cnt p.1 := unr_length _ _ _
theorem UN_len (A : List Int) (n : Nat) : (UN A n).length ≤ 4 * n := by
  induction n with
  | zero => simp [UN]
  | succ n ih =>
    have := cnt_le (rw_ A n).1
    rw [UN_succ, List.length_append, un_length]; omega
def RI (w : World) (B : Nat) (v : Value) (L : List Int) : Prop := w.ownsRow B 3 1 v L.length (iv L)
theorem ro_ri {w : World} {B : Nat} {v : Value} {L : List Int} (h : RI w B v L) (h9 : L.length ≤ 100000) : ∃ a c, v = .slice a L.length c ∧ Ro w a L.length c L := by
  rcases h.2 with ⟨rfl, h0⟩ | ⟨g, cap, cur, rfl, hB, hg, hc, hm, hs, ht⟩
  · exact ⟨none, 0, by rw [h0], rfl, by omega, by omega, fun h => by omega⟩
  · refine ⟨_, cap, rfl, ⟨rfl, hc, by unfold maxLen at hm; omega, fun h0 => ⟨g, 0, rfl, (Array.getElem?_eq_some_iff.1 hg).1, fun j x hx => ?_⟩⟩⟩
    obtain ⟨hj, e⟩ := List.getElem?_eq_some_iff.1 hx
    rw [Nat.zero_add]
    refine (cell_of_row w g j _ _ _ hg).trans ?_
    have : (cur.toList.take (L.length * 1))[j]? = some (.int .i64 x) := by rw [ht]; simp [iv, hx]
    rw [List.getElem?_take] at this
    split at this
    · simpa using this
    · cases this
set_option maxHeartbeats 8000000 in
set_option maxRecDepth 100000 in
theorem unpack_any (A : List Int) (F : Nat) (h : WF A F) (w : World) :
    Calls Tryd.prog 71 #[.string ⟨⟨bys A⟩⟩] w fun e w' => (∃ v, e = .returned v ∧ RI w' w.heap.size v (UN A (16 * F))) ∧ Below w.heap.size w w' := by
  have hlen : (bys A).length = 64 * F := by rw [bys_length, h.len]; omega
  have f1 := h.f1
  have f8 := h.f8
  have CO := Lib.hid fun q (hq : q < F) w' => codesOf_any (A.drop (16 * q)) (h.a32.drop _) (by rw [List.length_drop, h.len]; omega) (by rw [List.length_drop, h.len]; omega) w'
  have EX : Hid (∀ q, q < F → (ByteArray.mk ⟨bys A⟩).extract (64 * q) (bys A).length = ByteArray.mk ⟨bys (A.drop (16 * q))⟩) := Lib.hid fun q hq => by
    rw [ext_drop _ _ _ rfl, show 64 * q = 4 * (16 * q) by omega, bys_drop]
  have GE := Lib.hid fun k (hk : k < 16 * F) p (hp : p = ((4 * k : Nat) : Int)) w' => get4 A h.a32 k (by rw [h.len]; exact hk) (by rw [h.len]; omega) p hp w'
  have A3 := Lib.hid h.a32
  obtain ⟨l, hl⟩ : ∃ l, l = bys A := ⟨_, rfl⟩
  rw [← hl] at hlen EX GE ⊢
  have hsz : (ByteArray.mk ⟨l⟩).size = l.length := rfl
  have hle : (l.length : Int) ≤ 512 := by omega
  obtain ⟨i0, hi, hz0, hz1, hz2⟩ := info_parts infoI
  replace hl := Lib.hid hl
  replace hlen := Lib.hid hlen
  clear h
  go_enter Tryd.func71, Tryd.ntmps71
  go_wp2_with fail
  go_loopw [3, 4] (fun v i wr => ∃ q : Nat, q ≤ F ∧ i = .int .i64 ((64 * q : Nat) : Int) ∧ Hid (RI wr w.heap.size v (UN A (16 * q))) ∧ Hid (Below w.heap.size w wr)) (fun _ i _ => (64 * F + 64) - (intOf i).toNat)
  case atStart => exact ⟨0, by omega, rfl, Lib.hid (World.ownsRow_nil _ _ _ _), Lib.hid (Below.refl _ _)⟩
  case round =>
    obtain ⟨q, hq, rfl, O, HB⟩ := hrel
    obtain ⟨p, hp⟩ : ∃ p, p = 64 * q := ⟨_, rfl⟩
    rw [← hp]
    by_cases hlt : q < F
    · have pl : (p : Int) < l.length := by have := hlen.out; omega
      have pl2 : p < l.length := by have := hlen.out; omega
      have C := CO.out q hlt
      have E := EX.out q hlt
      rw [← hp] at E
      have a0 : (A.drop (16 * q)).getD 0 0 = A.getD (16 * q) 0 := by simp [List.getD]
      rw [a0] at C
      obtain ⟨x, hx⟩ : ∃ x, x = A.getD (16 * q) 0 := ⟨_, rfl⟩
      rw [← hx] at C
      replace C := Lib.hid C
      replace hp := Lib.hid hp
      obtain ⟨wo, rfl⟩ : ∃ wo, wo = wr := ⟨_, rfl⟩
      clear a0
      go_wp2_with fail
      with_reducible refine (C.out _).mono ?_
      rintro e w3 ⟨⟨b, c, rfl, R, hbn⟩, hb⟩
      have B3 := Lib.hid (Buf.then_ HB.out hb)
      have O3 := Lib.hid (own_below O.out hb)
      obtain ⟨g, o, rfl⟩ := R.form (by omega)
      have G3 : Hid ((u3).ownBlock ≠ some g) := Lib.hid fun e => by have h1 := (O.out.lt g e).2; have h2 := hbn g o rfl; omega
      have R3 := Lib.hid R
      have hgw : Hid (g < w3.heap.size) := Lib.hid (by obtain ⟨g', o', e', hg', _⟩ := R.at_ (by omega); injection e' with e'; injection e' with e1 e2; omega)
      clear hb hbn R O HB C E
      go_wp2_with fail
      go_loopw [3, 25] (fun v i wr => ∃ n : Nat, n ≤ 16 ∧ i = .int .i64 (n : Int) ∧ Hid (RI wr w.heap.size v (UN A (16 * q + n))) ∧ Hid (v.ownBlock ≠ some g) ∧ Hid (Ro wr (some ⟨g, o, none⟩) 16 c (prs x 16)) ∧ Hid (g < wr.heap.size) ∧ Hid (Below w.heap.size w wr)) (fun _ i _ => 16 - (intOf i).toNat)
      case atStart => exact ⟨0, by omega, rfl, O3, G3, R3, hgw, B3⟩
      case round =>
        clear O3 G3 R3 hgw B3
        obtain ⟨n, hn, rfl, O, G, R, HG, HB⟩ := hrel
        by_cases hn16 : n < 16
        · have ni : (n : Int) < 16 := by omega
          have cc := R.out.cell n hn16
          rw [prs_get x n 16 hn16] at cc
          obtain ⟨pr0, pr3⟩ := Ma.pr_rng x (15 - n)
          have hP1 : (rw_ A (16 * q + n)).1 = (Ma.pr x (15 - n)).toNat := by
            unfold rw_
            rw [show (16 * q + n) / 16 = q by omega, show (16 * q + n) % 16 = n by omega, ← hx]
          have hP2 : (rw_ A (16 * q + n)).2 = A.getD (16 * q + n) 0 := rfl
          obtain ⟨v0, v9⟩ := A3.out.getD (16 * q + n)
          obtain ⟨pp, hpp⟩ : ∃ pp, pp = (p : Int) + (n : Int) * 4 := ⟨_, rfl⟩
          have GX := GE.out (16 * q + n) (by omega) pp (by have := hp.out; omega)
          have hUN := UN_succ A (16 * q + n)
          have hUL := UN_len A (16 * q + n)
          rw [← hP2] at v0 v9 GX
          generalize hP : rw_ A (16 * q + n) = P at *
          obtain ⟨cdn, val⟩ := P
          have hcd : (cdn : Int) = Ma.pr x (15 - n) := by have h : cdn = (Ma.pr x (15 - n)).toNat := hP1; omega
          rw [← hcd] at cc
          have hc3 : cdn ≤ 3 := by omega
          have LY := Lib.hid fun w' => layout_any cdn hc3 w'
          have hcw : cnt cdn = 0 ∨ (8 ≤ wid cdn ∧ wid cdn ≤ 32 ∧ (cnt cdn - 1) * wid cdn ≤ 24) := by
            rcases (show cdn = 0 ∨ cdn = 1 ∨ cdn = 2 ∨ cdn = 3 by omega) with rfl | rfl | rfl | rfl <;> simp [cnt, wid]
          have hc4 := cnt_le cdn
          have hun : un (cdn, val) = unr (wid cdn) val (cnt cdn) := rfl
          rw [hun] at hUN
          simp only at v0 v9 GX
          generalize cnt cdn = cn at *
          generalize wid cdn = wd at *
          have EPP := Lib.hid (show (p : Int) + (n : Int) * 4 = pp from hpp.symm)
          have p9 : pp ≤ 1000 := by have := hp.out; omega
          replace GX := Lib.hid GX
          replace hUN := Lib.hid hUN
          replace hUL := Lib.hid hUL
          replace hcw := Lib.hid hcw
          clear hpp hP hP1 hP2 hcd hun pr0 pr3
          go_wp2_with fail
          rw [EPP.out]
          with_reducible refine (GX.out _).mono ?_
          rintro e w4 ⟨rfl, hb⟩
          replace HB := Lib.hid (Buf.then_ HB.out hb)
          replace R := Lib.hid (R.out.below hb)
          replace O := Lib.hid (own_below O.out hb)
          replace HG := Lib.hid (Nat.lt_of_lt_of_le HG.out hb.size)
          clear hb GX cc
          go_wp2_with fail
          with_reducible refine (LY.out _).mono ?_
          rintro e w5 ⟨rfl, hw⟩
          replace hw := hw.symm
          subst hw
          clear LY
          go_wp2_with fail
          go_loopw [3, 11] (fun v i wr => ∃ j : Nat, j ≤ cn ∧ i = .int .i64 ((cn : Int) - 1 - (j : Int)) ∧ Hid (RI wr w.heap.size v (UN A (16 * q + n) ++ (unr wd val cn).take j)) ∧ Hid (v.ownBlock ≠ some g) ∧ Hid (Ro wr (some ⟨g, o, none⟩) 16 c (prs x 16)) ∧ Hid (g < wr.heap.size) ∧ Hid (Below w.heap.size w wr)) (fun _ i _ => (intOf i + 1).toNat)
          case atStart => exact ⟨0, by omega, by go_num, Lib.hid (by rw [List.take_zero, List.append_nil]; exact O.out), G, R, HG, HB⟩
          case round =>
            clear O G R HG HB
            obtain ⟨j, hj, rfl, O, G, R, HG, HB⟩ := hrel
            by_cases hjc : j < cn
            · obtain ⟨k, hk⟩ : ∃ k, k = cn - 1 - j := ⟨_, rfl⟩
              have ek : (cn : Int) - 1 - (j : Int) = (k : Int) := by omega
              obtain ⟨hw8, hw32, hcwd⟩ : 8 ≤ wd ∧ wd ≤ 32 ∧ (cn - 1) * wd ≤ 24 := by rcases hcw.out with h | h; omega; exact h
              obtain ⟨sh, hsh⟩ : ∃ sh, sh = k * wd := ⟨_, rfl⟩
              have sh24 : sh ≤ 24 := by
                rw [hsh]
                exact Nat.le_trans (Nat.mul_le_mul_right wd (show k ≤ cn - 1 by omega)) hcwd
              have esh : (k : Int) * (wd : Int) = (sh : Int) := by rw [hsh, Int.natCast_mul]
              have hgt := unr_get wd cn val j hjc
              rw [← hk, ← hsh] at hgt
              obtain ⟨p1, p2⟩ := Ma.pow_bd wd 32 hw32
              have p2 : (2 : Int) ^ wd ≤ 4294967296 := p2
              obtain ⟨s1, s2⟩ := Ma.pow_bd sh 24 sh24
              have s2 : (2 : Int) ^ sh ≤ 16777216 := s2
              have d0 : 0 ≤ val / 2 ^ sh := Int.ediv_nonneg v0 (by omega)
              have d9 : val / 2 ^ sh ≤ 4294967295 := Int.le_trans (Int.ediv_le_self _ v0) v9
              have ha := Ma.and_mask (val / 2 ^ sh) wd (by omega)
              have m0 : 0 ≤ val / 2 ^ sh % 2 ^ wd := Int.emod_nonneg _ (by omega)
              have m1 : val / 2 ^ sh % 2 ^ wd < 2 ^ wd := Int.emod_lt_of_pos _ (by omega)
              have SG : Hid (∀ w', Calls Tryd.prog 87 #[.int .i64 (val / 2 ^ sh % 2 ^ wd), .int .i64 (wd : Int)] w' fun e w'' => e = .returned (.tuple #[.int .i64 (Ma.sg (val / 2 ^ sh % 2 ^ wd) (2 ^ (wd - 1)) (2 ^ wd)), .int .i64 0]) ∧ ∃ m, w'' = w'.drewN m) := Lib.hid fun w' => Bits.sign_yes _ (wd : Int) w' (by omega) (by omega) m0 (by rw [Int.toNat_natCast]; exact m1)
              rw [ek]
              obtain ⟨y, hy⟩ : ∃ y, y = Ma.sg (val / 2 ^ sh % 2 ^ wd) (2 ^ (wd - 1)) (2 ^ wd) := ⟨_, rfl⟩
              rw [← hy] at SG hgt
              have htk : (unr wd val cn).take (j + 1) = (unr wd val cn).take j ++ [y] := by
                obtain ⟨h1, e1⟩ := List.getElem?_eq_some_iff.1 hgt
                rw [List.take_succ_eq_append_getElem h1, e1]
              replace hy := Lib.hid hy
              replace htk := Lib.hid htk
              replace hk := Lib.hid hk
              replace hsh := Lib.hid hsh
              have EK := Lib.hid ek
              clear hgt ek hcwd m0 m1
              go_wp2_with fail
              go_quiet ((go_at_call 87; exact Calls.quiet_of (SG.out _)))
              have bq := Buf.below_drewN (Below.refl wr.heap.size wr) nq
              generalize wr.drewN nq = w6 at *
              replace HB := Lib.hid (Buf.then_ HB.out bq)
              replace R := Lib.hid (R.out.below bq)
              replace O := Lib.hid (own_below O.out bq)
              replace HG := Lib.hid (Nat.lt_of_lt_of_le HG.out bq.size)
              have OL : Hid ((UN A (16 * q + n) ++ (unr wd val cn).take j).length ≤ 1000) := Lib.hid (by
                have h1 := hUL.out
                rw [List.length_append, List.length_take]
                omega)
              obtain ⟨M, hM⟩ : ∃ M, M = UN A (16 * q + n) ++ (unr wd val cn).take j := ⟨_, rfl⟩
              rw [← hM] at O OL
              have hM2 : Hid (M ++ [y] = UN A (16 * q + n) ++ (unr wd val cn).take (j + 1)) := Lib.hid (by rw [htk.out, hM, List.append_assoc])
              have one : Hid (∀ u ∈ [Value.int .i64 y], u.oneCell' = true) := Lib.hid (by simp; rfl)
              have hb3 := Lib.hid (heap_alloc_new w6 (.cells #[.int .i64 y] 3))
              have hown := Lib.hid (own_below O.out (new_block (.cells #[.int .i64 y] 3)))
              have hle6 : w.heap.size ≤ w6.heap.size := HB.out.size
              have hR := Lib.hid (R.out.below (new_block (.cells #[.int .i64 y] 3)))
              have hBB := Lib.hid (Buf.then_ HB.out (new_block (.cells #[.int .i64 y] 3)))
              clear bq O R HB hM
              go_wp2_with (at_builtin; refine wpList_append_lies _ rfl (.tmp 64) (.tmp 66) 22 rfl w.heap.size 3 i0 (.int .i64 0) 1 8 Tryd.underlying22 hi hz0 hz1 hz2 rfl (by decide) _ M.length (iv M) rfl hown.out ⟨w6.heap.size, 0, none⟩ 1 1 [.int .i64 y] rfl rfl (World.news_of_block hb3.out) one.out (by decide) (by unfold maxLen; have := OL.out; omega) (by have := OL.out; omega) (by simp; omega) _ rfl ?_; intro gq cq w7 O2 G2 hg2 hl2)
              have O7 : Hid (RI w7 w.heap.size (.slice (some ⟨gq, 0, none⟩) (M.length + 1) cq) (UN A (16 * q + n) ++ (unr wd val cn).take (j + 1))) := Lib.hid (by
                unfold RI
                rw [← hM2.out]
                have e1 : iv (M ++ [y]) = iv M ++ [.int .i64 y] := by simp [iv]
                rw [e1, List.length_append]
                exact O2)
              have hot : ∀ k, k < w6.heap.size + 1 → some k ≠ (u3).ownBlock → w7.heap[k]? = (w6.alloc (.cells #[.int .i64 y] 3)).heap[k]? := fun k hk hne => G2.block k (by simpa using hk) hne
              have R7 := Lib.hid (hR.out.kept (w' := w7) (fun g' o' e h0 => by
                have := Option.some.inj e; injection this with e1 _
                subst e1
                exact hot g (by have := HG.out; omega) (fun e2 => G.out e2.symm)) G2.size)
              have B7 : Hid (Below w.heap.size w w7) := Lib.hid (hBB.out.trans ⟨G2.os, G2.tape, G2.output, G2.size, fun k hk => hot k (by omega) (fun e2 => by have := (hown.out.lt k e2.symm).1; omega)⟩)
              have HG7 : Hid (g < w7.heap.size) := Lib.hid (by
                have e4 : (w6.alloc (.cells #[.int .i64 y] 3)).heap.size = w6.heap.size + 1 := Array.size_push ..
                have := G2.size; have := HG.out; omega)
              have G7 : Hid (Value.ownBlock (.slice (some ⟨gq, 0, none⟩) (M.length + 1) cq) ≠ some g) := Lib.hid (by
                intro e2
                have e3 : gq = g := Option.some.inj e2
                rcases hg2 with h | h
                · exact G.out (by rw [← e3]; exact h)
                · have e4 : (w6.alloc (.cells #[.int .i64 y] 3)).heap.size = w6.heap.size + 1 := Array.size_push ..
                  have := HG.out
                  rw [e4] at h; omega)
              clear O2 G2 hg2 hl2 hown hb3 one hR hBB hot
              go_wp2_with fail
              have ew : wrap64 ((k : Int) - 1) = (cn : Int) - 1 - ((j + 1 : Nat) : Int) := by
                have h1 := hk.out
                rw [IntWalk.wrap64_in _ ⟨by omega, by omega⟩]
                have := EK.out; omega
              exact ⟨⟨j + 1, by omega, by rw [ew], O7, G7, R7, HG7, B7⟩, by rw [ew]; simp [intOf]; have := EK.out; omega⟩
            · obtain rfl : cn = j := by omega
              have en : (cn : Int) - 1 - (cn : Int) = -1 := by omega
              rw [en]
              rw [List.take_of_length_le (by rw [unr_length]; exact Nat.le_refl _), ← hUN.out] at O
              go_wp2_with fail
              go_roundw
              case rel => exact ⟨n + 1, by omega, by go_num, O, G, R, HG, HB⟩
              case measure => simp [intOf]; omega
        · obtain rfl : n = 16 := by omega
          have h64 : (p : Int) ≤ 512 := by omega
          go_wp2_with fail
          go_roundw
          case rel => exact ⟨q + 1, by omega, by have := hp.out; go_num, Lib.hid (by rw [show 16 * (q + 1) = 16 * q + 16 by omega]; exact O.out), HB⟩
          case measure => simp [intOf]; have := hp.out; omega
    · obtain rfl : F = q := by omega
      have hnk : ¬ ((p : Int) < l.length) := by have := hlen.out; omega
      go_wp2_with fail
      go_ret
      exact ⟨⟨_, rfl, O.out⟩, HB.out⟩
end St
end Go.Proofs.YtfebacopbacopaaDoor
