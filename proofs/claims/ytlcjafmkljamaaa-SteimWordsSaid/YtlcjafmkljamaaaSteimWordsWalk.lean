/- The walk of SteimWords. -/
import Derived.Test.YtlcjafmkljamaaaStmQ
set_option linter.unusedVariables false
set_option linter.unusedSimpArgs false
namespace Go.Proofs.Ytlcjafmkljamaaa
open Go.RowKit Dice Ri Rk
namespace St
/-- The jump, laid as far as i. -/
def yp (n j i : Nat) (c : Int) : List Int := (List.range n).map fun t => sx t + if j < t ∧ t < i then c else 0
theorem yp_length (n j i : Nat) (c : Int) : (yp n j i c).length = n := by simp [yp]
theorem yp_start (n j : Nat) (c : Int) : yp n j (j + 1) c = xs n := by
  unfold yp xs
  refine List.map_congr_left fun t ht => ?_
  rw [if_neg (by omega), Int.add_zero]
theorem yp_end (n j : Nat) (c : Int) : yp n j n c = ys n j c := by
  unfold yp ys
  refine List.map_congr_left fun t ht => ?_
  rw [List.mem_range] at ht
  by_cases h : j < t
  · rw [if_pos ⟨h, ht⟩, if_pos h]
  · rw [if_neg (fun e => h e.1), if_neg h]
theorem yp_get (n j i : Nat) (c : Int) (h : i < n) : (yp n j i c).getD i 0 = sx i := by
  simp [yp, List.getD_eq_getElem?_getD, h]
theorem yp_set (n j i : Nat) (c : Int) (h : i < n) (hj : j < i) : (yp n j i c).set i (sx i + c) = yp n j (i + 1) c := by
  refine List.ext_getElem (by simp [yp_length]) fun t h1 h2 => ?_
  rw [List.getElem_set]
  split
  · subst t
    simp only [yp, List.getElem_map, List.getElem_range]
    rw [if_pos ⟨hj, by omega⟩]
  · simp only [yp, List.getElem_map, List.getElem_range]
    congr 1
    by_cases h3 : j < t ∧ t < i
    · rw [if_pos h3, if_pos ⟨h3.1, by omega⟩]
    · rw [if_neg h3, if_neg (by omega)]
/-- A copy of a row: append(nil, x...). -/
theorem wpList_copy {ops : Array Oper} {rest : List Oper} {o : Oper} {a : Act} {Q : Exit → Act → World → Prop} (hgd : o.guard = none) (s x : Operand)
    (ho : o.op = .call { callee := .builtin .append, args := #[s, x], argTypes := #[22, 22] }) (hs : a.eval s = .slice none 0 0) (ad : Option Addr) (n c : Nat) (hx : a.eval x = .slice ad n c) {w : World} {L : List Int} (R : Ro w ad n c L)
    (n1 : 1 ≤ n) (n9 : n ≤ 100000) (B : Nat) (hB : B ≤ w.heap.size)
    (h : ∀ v' w', Buf.Own B w' v' (iv L) → Below B w w' → wpList Try.prog ops Q rest (a.put o.dst v') w') : wpList Try.prog ops Q (o :: rest) a w := by
  obtain ⟨i0, hi, hz0, hz1, hz2⟩ := info_parts infoI
  obtain ⟨g, f, rfl, hg, hc⟩ := R.at_ (by omega)
  have hl := R.len
  refine Buf.wpList_append hgd s x 22 22 ho 3 i0 (.int .i64 0) 8 Try.underlying22 hi hz0 hz1 hz2 rfl hs (Buf.Own.nil B w) hB _ n (iv L) hx (Src.ofSlice _ Try.underlying22 ⟨g, f, none⟩ n c (iv L) (by rw [iv_length]; omega) (fun q u hu => by
    rw [Addr.add_lit]
    unfold iv at hu
    rw [List.getElem?_map] at hu
    cases hq : L[q]? with
    | none => rw [hq] at hu; cases hu
    | some y => rw [hq] at hu; rw [hc q y hq]; exact hu) (fun u hu => by obtain ⟨x, _, rfl⟩ := List.mem_map.1 hu; rfl)) (by simp; unfold maxLen; omega) (by simp; omega) ?_
  intro v' w' ho' hg'
  exact h v' w' (by simpa using ho') (Buf.below_grown (Below.refl _ _) (Buf.Own.nil B w) hB hg')
end St
namespace Laws
open St
set_option maxHeartbeats 8000000 in
set_option maxRecDepth 100000 in
theorem steimWords_walk (a0 a1 a2 : Int) (wf0 : (Lit.int .u8 a0).wf = true) (wf1 : (Lit.int .u8 a1).wf = true) (wf2 : (Lit.int .u8 a2).wf = true) (w : World) :
    Calls Try.prog 5 #[.int .u8 a0, .int .u8 a1, .int .u8 a2] w fun e w' => e = .returned (.bool true) ∧ Below w.heap.size w w' := by
  have Sn := Lib.hid St.sane_any
  obtain ⟨b0, b1⟩ : 0 ≤ a0 ∧ a0 ≤ 255 := Ma.wf_u8 wf0
  obtain ⟨c0, c1⟩ : 0 ≤ a1 ∧ a1 ≤ 255 := Ma.wf_u8 wf1
  obtain ⟨d0, d1⟩ : 0 ≤ a2 ∧ a2 ≤ 255 := Ma.wf_u8 wf2
  clear wf0 wf1 wf2
  obtain ⟨i0, hi, hz0, hz1, hz2⟩ := info_parts infoI
  obtain ⟨n, hn⟩ : ∃ n : Nat, (n : Int) = 1 + a0 % 60 := ⟨(1 + a0 % 60).toNat, by omega⟩
  have en := Lib.hid hn
  have n1 : 1 ≤ n := by omega
  have n9 : n ≤ 60 := by omega
  obtain ⟨j, hj⟩ : ∃ j : Nat, (j : Int) = a2 % (n : Int) := ⟨(a2 % (n : Int)).toNat, by have := Int.emod_nonneg a2 (b := (n : Int)) (by omega); omega⟩
  have jn : j < n := by have := Int.emod_lt_of_pos a2 (b := (n : Int)) (by omega); omega
  have ej := Lib.hid hj
  clear hn hj
  have O0 := Lib.hid (Buf.own_lit w 3 (iv (xs 1)) (by simp [iv, xs_length]; unfold maxLen; omega))
  have B0 := Lib.hid ((Below.refl w.heap.size w).alloc (Nat.le_refl _) (.cells (iv (xs 1)).toArray 3))
  go_enter Try.func5, Try.ntmps5
  go_wp2_with fail
  rw [← en.out]
  go_loopw [8, 9] (fun s8 s9 wr => ∃ k : Nat, 1 ≤ k ∧ k ≤ n ∧ s9 = .int .i64 (k : Int) ∧ Hid (Buf.Own w.heap.size wr s8 (iv (xs k))) ∧ Hid (Below w.heap.size w wr)) (fun _ s9 _ => n - (intOf s9).toNat)
  case atStart => exact ⟨1, by omega, n1, rfl, O0, B0⟩
  case round =>
    clear O0 B0
    obtain ⟨k, k1, kn, rfl, O, B⟩ := hrel
    obtain ⟨g, cap, rfl, hB, hcap, -, -⟩ := O.out.parts (by rw [iv_length, xs_length]; omega)
    have hl : (iv (xs k)).length = k := by rw [iv_length, xs_length]
    have hcm : Hid (cap ≤ 9223372036854775807) := Lib.hid (by
      rcases O.out with ⟨h, _⟩ | ⟨g', c', h, hb⟩
      · cases h
      · injection h with _ _ e3
        subst e3
        have := hb.max
        unfold maxLen at this
        omega)
    rw [hl] at O hcap ⊢
    by_cases hkn : k < n
    · have ki : (k : Int) < n := by omega
      obtain ⟨i, h1⟩ : ∃ i, i = k - 1 := ⟨_, rfl⟩
      have ei : (k : Int) - 1 = (i : Int) := by omega
      have hik : i < k := by omega
      have iki : (i : Int) < k := by omega
      have cx := (row_read O.out i (by rw [xs_length]; omega)).1
      rw [xs_get _ _ hik] at cx
      have sin := sx_in i
      have s0 : -200 ≤ sx i := by omega
      have s1 : sx i ≤ 200 := by omega
      have es := Lib.hid (show sx k = sx i + ((k : Int) % 5) - 2 by
        rw [show k = i + 1 by omega]
        simp only [sx]
        omega)
      have xk := Lib.hid (xs_succ k)
      generalize sx i = v at *
      clear sin
      replace h1 := Lib.hid h1
      go_wp2_with (at_builtin; refine Buf.wpList_append_one rfl (.tmp 29) (.tmp 39) 22 rfl 3 3 i0 (.int .i64 0) 8 Try.underlying22 hi hz0 hz1 hz2 rfl rfl O.out B.out B.out.size _ rfl rfl (by rw [iv_length, xs_length]; unfold maxLen; omega) (by rw [iv_length, xs_length]; omega) ?_; intro v' w' ho hb hsz; replace ho := Lib.hid ho; replace hb := Lib.hid hb; clear hsz)
      rw [es.out] at xk
      first
      | exact ⟨⟨k + 1, by omega, by omega, by go_num, Lib.hid (by rw [xk.out]; simpa [iv] using ho.out), hb⟩, by simp [intOf]; omega⟩
      | (go_roundw
         case rel => exact ⟨k + 1, by omega, by omega, by go_num, Lib.hid (by rw [xk.out]; simpa [iv] using ho.out), hb⟩
         case measure => simp [intOf]; omega)
    · obtain rfl : n = k := by omega
      have ki : ¬ ((n : Int) < n) := by omega
      obtain ⟨ax, nx, cx, e, R⟩ := ro_any O.out
      injection e with e1 e2 e3
      subst e1 e2 e3
      have SX : InS (xs n) := by rw [← xs_ys n n 0 (by omega)]; exact inS_ys n n 0 n9 (by omega) (by omega)
      have WX := Lib.hid (words_any R (by omega) SX)
      rw [words_xs n n9] at WX
      obtain ⟨k, hk⟩ : ∃ k : Nat, k = n / 4 + n % 4 / 2 + n % 2 := ⟨_, rfl⟩
      rw [← hk] at WX
      have g1 : ((k : Int) != (n : Int) / 4 + (n : Int) % 4 / 2 + (n : Int) % 2) = false := by rw [bne_eq_false_iff_eq]; omega
      have n1i : (1 : Int) ≤ n := by omega
      have n9i : (n : Int) ≤ 60 := by omega
      have m0 : 0 ≤ a2 % (n : Int) := by rw [← ej.out]; omega
      have m1 : a2 % (n : Int) < n := by rw [← ej.out]; omega
      replace hk := Lib.hid hk
      replace R := Lib.hid R
      clear O
      go_wp2_with fail
      with_reducible refine WX.out.mono ?_
      rintro e w4 ⟨rfl, hb⟩
      replace B := Lib.hid (Buf.then_ B.out hb)
      replace R := Lib.hid (R.out.below hb)
      clear hb WX
      go_wp2_with (at_builtin; refine wpList_copy rfl _ (.tmp 58) rfl rfl _ _ _ rfl R.out n1 (by omega) w.heap.size B.out.size ?_; intro v' w5 ho hb; replace ho := Lib.hid ho; have BY := Lib.hid (B.out.trans hb); clear hb)
      obtain ⟨g2, cap2, rfl, hB2, hcap2, -, -⟩ := ho.out.parts (by rw [iv_length, xs_length]; omega)
      have hl2 : (iv (xs n)).length = n := by rw [iv_length, xs_length]
      rw [hl2] at ho hcap2 ⊢
      have hcm2 : Hid (cap2 ≤ 9223372036854775807) := Lib.hid (by
        rcases ho.out with ⟨h, _⟩ | ⟨g', c', h, hb⟩
        · cases h
        · injection h with _ _ e3
          subst e3
          have := hb.max
          unfold maxLen at this
          omega)
      obtain ⟨c, hc⟩ : ∃ c, c = 1000000 + a1 := ⟨_, rfl⟩
      have OY := Lib.hid ho.out
      rw [← yp_start n j c] at OY
      clear ho R hcap hcm hl
      rw [← ej.out]
      go_loopw [13] (fun s13 wr => ∃ i : Nat, j + 1 ≤ i ∧ i ≤ n ∧ s13 = .int .i64 (i : Int) ∧ Hid (Buf.Own w.heap.size wr (.slice (some ⟨g2, 0, none⟩) n cap2) (iv (yp n j i c))) ∧ Hid (Below w.heap.size w wr)) (fun s13 _ => n - (intOf s13).toNat)
      case atStart => exact ⟨j + 1, by omega, by omega, by go_num, OY, BY⟩
      case round =>
        clear OY B BY
        obtain ⟨i, ji, ni, rfl, O, B⟩ := hrel
        by_cases hin : i < n
        · have ii : (i : Int) < n := by omega
          obtain ⟨cx, fx, _⟩ := row_read O.out i (by rw [yp_length]; exact hin)
          rw [yp_get _ _ _ _ hin] at cx
          have sin := sx_in i
          have s0 : -200 ≤ sx i := by omega
          have s1 : sx i ≤ 200 := by omega
          have ST : Hid (Buf.Own w.heap.size (wr.setCell ⟨g2, i, none⟩ (.int .i64 (sx i + (1000000 + a1)))) (.slice (some ⟨g2, 0, none⟩) n cap2) (iv (yp n j (i + 1) c))) := Lib.hid (by
            rw [← hc]
            have h := row_store O.out i (sx i + c)
            rwa [yp_set n j i c hin (by omega)] at h)
          have BS := Lib.hid (B.out.setCell (p := ⟨g2, i, none⟩) hB2 (.int .i64 (sx i + (1000000 + a1))))
          generalize sx i = v at *
          clear sin
          go_wp2_with fail
          first
          | exact ⟨⟨i + 1, by omega, by omega, by go_num, ST, BS⟩, by simp [intOf]; omega⟩
          | (go_roundw
             case rel => exact ⟨i + 1, by omega, by omega, by go_num, ST, BS⟩
             case measure => simp [intOf]; omega)
        · obtain rfl : n = i := by omega
          have ii : ¬ ((n : Int) < n) := by omega
          obtain ⟨ax, nx, cx, e, R⟩ := ro_any O.out
          injection e with e1 e2 e3
          subst e1 e2 e3
          rw [yp_end] at R
          have SY : InS (ys n j c) := inS_ys n j c n9 (by omega) (by omega)
          have WY := Lib.hid (words_any R (by omega) SY)
          by_cases hjn : j + 1 = n
          · have gj : ((j : Int) + 1 == (n : Int)) = true := by rw [beq_iff_eq]; omega
            rw [xs_ys n j c (by omega), words_xs n n9, ← hk.out] at WY
            go_wp2_with fail
            with_reducible refine WY.out.mono ?_
            rintro e w4 ⟨rfl, hb⟩
            replace B := Lib.hid (Buf.then_ B.out hb)
            clear hb WY
            go_wp2_with fail
            with_reducible refine (Sn.out _).mono ?_
            rintro e w12 ⟨rfl, b12⟩
            go_wp2_with fail
            go_ret
            exact ⟨rfl, Buf.then_ B.out b12⟩
          · have gj : ((j : Int) + 1 == (n : Int)) = false := by rw [beq_eq_false_iff_ne]; omega
            have hw := words_ys n j c (by omega) n9 (by omega)
            rw [← hk.out] at hw
            have hf := fo_le (ys n j c) (by rw [ys_length]; omega)
            have E := Lib.hid fun w' (b : Below wr.heap.size wr w') => encode_any (R.below b) n1 (by omega) SY hf
            have DE := Lib.hid fun w' => decode_enc (ys n j c) SY ((ys n j c).getD ((ys n j c).length - 1) 0 % 4294967296) (by omega) (by omega) hf n n1 (by rw [ys_length]; omega) (by rw [ys_length]; omega) _ (sg32 _ (getD_in SY _)) w'
            have hen : bys (allw (fo (wds (df (ys n j c))).length) (ewy (ys n j c) ((ys n j c).getD ((ys n j c).length - 1) 0 % 4294967296))) = enc (ys n j c) := rfl
            rw [hen, ys_length, List.take_of_length_le (by rw [ys_length]; omega)] at DE
            generalize enc (ys n j c) = s at *
            generalize ys n j c = L at *
            obtain ⟨m, hm⟩ : ∃ m, m = (wds (df L)).length := ⟨_, rfl⟩
            rw [← hm] at WY hw
            obtain ⟨hw1, hw2⟩ := hw
            have q1 : (n : Int) / 4 < (m : Int) := by omega
            have q2 : (m : Int) ≤ (k : Int) + 3 := by omega
            have k9 : (k : Int) ≤ 100 := by have := hk.out; omega
            replace hm := Lib.hid hm
            replace R := Lib.hid R
            have BW := Lib.hid (Below.refl wr.heap.size wr)
            clear hw1 hw2 hf hen SY SX
            go_wp2_with fail
            with_reducible refine WY.out.mono ?_
            rintro e w4 ⟨rfl, hb⟩
            replace BW := Lib.hid (Buf.then_ BW.out hb)
            clear hb WY
            go_wp2_with fail
            with_reducible refine (E.out _ BW.out).mono ?_
            rintro e w5 ⟨rfl, hb⟩
            replace BW := Lib.hid (Buf.then_ BW.out hb)
            clear hb E
            go_wp2_with fail
            with_reducible refine (DE.out _).mono ?_
            rintro e w6 ⟨h6, hb⟩
            obtain ⟨b', c', rfl, R'⟩ : ∃ b' c', e = .returned (.tuple #[.slice b' n c', .int .i64 0]) ∧ Ro w6 b' n c' L := by
              rcases h6 with ⟨_, h⟩ | ⟨h, _⟩
              · exact h
              · exact absurd rfl h
            replace BW := Lib.hid (Buf.then_ BW.out hb)
            clear hb h6 DE
            have SM := Lib.hid (same_any R' (R.out.below BW.out))
            clear R'
            go_wp2_with fail
            with_reducible refine SM.out.mono ?_
            rintro e w7 ⟨rfl, hb⟩
            replace BW := Lib.hid (Buf.then_ BW.out hb)
            clear hb SM
            go_wp2_with fail
            with_reducible refine (Sn.out _).mono ?_
            rintro e w12 ⟨rfl, b12⟩
            go_wp2_with fail
            go_ret
            exact ⟨rfl, Buf.then_ B.out (Buf.then_ BW.out b12)⟩
end Laws
end Go.Proofs.Ytlcjafmkljamaaa
