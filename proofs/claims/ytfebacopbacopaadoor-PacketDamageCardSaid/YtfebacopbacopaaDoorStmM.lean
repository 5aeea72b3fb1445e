/- Decode. -/
import Derived.Test.YtfebacopbacopaaDoorStmL
set_option linter.unusedVariables false
set_option linter.unusedSimpArgs false
namespace Go.Proofs.YtfebacopbacopaaDoor
open Go.RowKit Dice Ri Rk
namespace St
theorem get4d (A : List Int) (hA : A32 A) (k : Nat) (h : k < A.length) (hl : A.length ≤ 1000) (p : Int) (hp : p = ((4 * k : Nat) : Int)) (w : World) :
    Calls Tryd.prog 69 #[.string ⟨⟨bys A⟩⟩, .int .i64 p, .int .i64 4] w fun e w' => e = .returned (.tuple #[.int .i64 (A.getD k 0), .int .i64 0]) ∧ ∃ m, w' = w.drewN m := by
  subst hp
  have hs : (ByteArray.mk ⟨bys A⟩).size = 4 * A.length := bys_length A
  have g := Bits.get_ok ⟨⟨bys A⟩⟩ (4 * k) 4 w (by rw [hs]; omega) (by omega) (by omega) (by rw [hs]; omega)
  have e := word_val A hA k h
  refine Calls.mono g ?_
  rintro e' w' ⟨he, hm⟩
  refine ⟨?_, hm⟩
  rw [he, ← e]
theorem signedWord_d (A : List Int) (hA : A32 A) (h9 : A.length ≤ 1000) (k : Nat) (hk : k < A.length) (ki : Int) (hki : ki = (k : Int)) (w : World) :
    Calls Tryd.prog 72 #[.string ⟨⟨bys A⟩⟩, .int .i64 ki] w fun e w' => e = .returned (.int .i64 (Ma.sg (A.getD k 0) 2147483648 4294967296)) ∧ ∃ m, w' = w.drewN m := by
  have G := Lib.hid fun w' => get4d A hA k hk h9 (ki * 4) (by omega) w'
  obtain ⟨x0, x1⟩ := hA.getD k
  have k0 : 0 ≤ ki := by omega
  have k9 : ki ≤ 1000 := by omega
  generalize A.getD k 0 = x at *
  have S : Hid (∀ w', Calls Tryd.prog 87 #[.int .i64 x, .int .i64 32] w' fun e w'' => e = .returned (.tuple #[.int .i64 (Ma.sg x 2147483648 4294967296), .int .i64 0]) ∧ ∃ m, w'' = w'.drewN m) := Lib.hid fun w' => Bits.sign_yes x 32 w' (by omega) (by omega) x0 (by show x < 4294967296; omega)
  generalize Ma.sg x 2147483648 4294967296 = y at *
  obtain ⟨l, hl⟩ : ∃ l, l = bys A := ⟨_, rfl⟩
  rw [← hl] at G ⊢
  clear hA hl hki
  go_enter Tryd.func72, Tryd.ntmps72
  go_wp2_with fail
  with_reducible refine (G.out _).mono ?_
  rintro e w1 ⟨rfl, m1, rfl⟩
  go_wp2_with fail
  with_reducible refine (S.out _).mono ?_
  rintro e w2 ⟨rfl, m2, rfl⟩
  go_wp2_with fail
  go_ret
  exact ⟨rfl, _, rfl⟩
def xk (X : List Int) (n k : Nat) : List Int := X.take k ++ List.replicate (n - k) 0
theorem xk_len (X : List Int) (n k : Nat) (hn : n = X.length) (hk : k ≤ n) : (xk X n k).length = n := by
  unfold xk; rw [List.length_append, List.length_take, List.length_replicate]; omega
theorem xk_set (X : List Int) (n k : Nat) (hn : n = X.length) (hk : k < n) (v : Int) (hv : v = X.getD k 0) : (xk X n k).set k v = xk X n (k + 1) := by
  have hl : (X.take k).length = k := by rw [List.length_take]; omega
  have e : X.getD k 0 = X[k] := by rw [List.getD_eq_getElem?_getD, List.getElem?_eq_getElem (by omega)]; rfl
  unfold xk
  rw [List.set_append_right _ _ (by omega), hl, Nat.sub_self, show n - k = (n - (k + 1)) + 1 by omega, List.replicate_succ, List.set_cons_zero, List.take_succ_eq_append_getElem (by omega : k < X.length), hv, e, List.append_assoc]
  rfl
theorem xk_get (X : List Int) (n k j : Nat) (hn : n = X.length) (hj : j < k) (hk : k ≤ n) : (xk X n k).getD j 0 = X.getD j 0 := by
  unfold xk
  rw [List.getD_eq_getElem?_getD, List.getElem?_append_left (by rw [List.length_take]; omega), List.getElem?_take_of_lt hj, ← List.getD_eq_getElem?_getD]
theorem xk_all (X : List Int) (n : Nat) (hn : n = X.length) : xk X n n = X := by
  unfold xk; rw [Nat.sub_self, List.replicate_zero, List.append_nil, hn, List.take_length]
theorem ri_cap {w : World} {B : Nat} {v : Value} {L : List Int} (h : RI w B v L) : ∀ a n c, v = .slice a n c → L.length ≤ c ∧ n = L.length := by
  intro a n c e
  rcases h.2 with ⟨rfl, h0⟩ | ⟨g, cap, cur, rfl, hB, hg, hc, hm, hs, ht⟩
  · injection e with e1 e2 e3; omega
  · injection e with e1 e2 e3; omega
theorem ri_cells {w : World} {B : Nat} {v : Value} {L : List Int} (h : RI w B v L) (h0 : 0 < L.length) : ∃ g c, v = .slice (some ⟨g, 0, none⟩) L.length c ∧ B ≤ g ∧ g < w.heap.size ∧ ∀ j x, L[j]? = some x → w.cell? ⟨g, j, none⟩ = some (.int .i64 x) := by
  rcases h.2 with ⟨rfl, h0⟩ | ⟨g, cap, cur, rfl, hB, hg, hc, hm, hs, ht⟩
  · omega
  · refine ⟨g, cap, rfl, hB, (Array.getElem?_eq_some_iff.1 hg).1, fun j x hx => ?_⟩
    refine (cell_of_row w g j _ _ _ hg).trans ?_
    have : (cur.toList.take (L.length * 1))[j]? = some (.int .i64 x) := by rw [ht]; simp [iv, hx]
    rw [List.getElem?_take] at this
    split at this
    · simpa using this
    · cases this
set_option maxHeartbeats 8000000 in
set_option maxRecDepth 100000 in
theorem decode_anyB (A : List Int) (F : Nat) (h : WF A F) (X : List Int) (n : Nat) (hn : n = X.length) (n1 : 1 ≤ n) (n9 : n ≤ 420) (hX : InS X) (h0 : X.getD 0 0 = Ma.sg (A.getD 1 0) 2147483648 4294967296)
    (hD : n ≤ (UN A (16 * F)).length) (hd : ∀ i, 1 ≤ i → i < n → (UN A (16 * F)).getD i 0 = X.getD i 0 - X.getD (i - 1) 0) (xl z2 : Int) (hxl : X.getD (n - 1) 0 = xl) (hz2' : Ma.sg (A.getD 2 0) 2147483648 4294967296 = z2) (w : World) :
    Calls Tryd.prog 53 #[.string ⟨⟨bys A⟩⟩, .int .i64 (n : Nat)] w fun e w' =>
      ((xl = z2 ∧ ∃ b c, e = .returned (.tuple #[.slice b n c, .int .i64 0]) ∧ Ro w' b n c X ∧ (∀ g o, b = some ⟨g, o, none⟩ → w.heap.size ≤ g)) ∨ (xl ≠ z2 ∧ e = .returned (.tuple #[.slice none 0 0, .int .i64 11]))) ∧ Below w.heap.size w w' := by
  have WFA := Lib.hid fun w' => wellFormed_any A F h w'
  have UA := Lib.hid fun w' => unpack_any A F h w'
  have f1 := h.f1
  have f8 := h.f8
  have S1 : Hid (∀ w', Calls Tryd.prog 72 #[.string ⟨⟨bys A⟩⟩, .int .i64 1] w' fun e w'' => e = .returned (.int .i64 (Ma.sg (A.getD 1 0) 2147483648 4294967296)) ∧ ∃ m, w'' = w'.drewN m) := Lib.hid fun w' => signedWord_d A h.a32 (by rw [h.len]; omega) 1 (by rw [h.len]; omega) 1 rfl w'
  have S2 : Hid (∀ w', Calls Tryd.prog 72 #[.string ⟨⟨bys A⟩⟩, .int .i64 2] w' fun e w'' => e = .returned (.int .i64 (Ma.sg (A.getD 2 0) 2147483648 4294967296)) ∧ ∃ m, w'' = w'.drewN m) := Lib.hid fun w' => signedWord_d A h.a32 (by rw [h.len]; omega) 2 (by rw [h.len]; omega) 2 rfl w'
  have hUL := UN_len A (16 * F)
  rw [← h0] at S1
  rw [hz2'] at S2
  replace hxl := Lib.hid hxl
  clear hz2'
  generalize UN A (16 * F) = D at *
  obtain ⟨l, hl⟩ : ∃ l, l = bys A := ⟨_, rfl⟩
  rw [← hl] at WFA UA S1 S2 ⊢
  obtain ⟨i0, hi, hz0, hz1, hz2⟩ := info_parts infoI
  have inX : Hid (∀ i, -1073741823 ≤ X.getD i 0 ∧ X.getD i 0 ≤ 1073741823) := Lib.hid fun i => by
    by_cases hi : i < X.length
    · exact hX _ (by rw [List.getD_eq_getElem?_getD, List.getElem?_eq_getElem hi]; exact List.getElem_mem _)
    · have e : X.getD i 0 = 0 := by simp [List.getD, show X.length ≤ i by omega]
      rw [e]; omega
  replace hX := Lib.hid hX
  replace hd := Lib.hid hd
  replace h0 := Lib.hid h0
  replace hn := Lib.hid hn
  replace hl := Lib.hid hl
  have hD64 : D.length ≤ 512 := by omega
  clear h hUL
  obtain ⟨x0, hx0⟩ : ∃ x, x = X.getD 0 0 := ⟨_, rfl⟩
  obtain ⟨i00, i01⟩ := inX.out 0
  rw [← hx0] at S1 i00 i01
  replace hx0 := Lib.hid hx0
  go_enter Tryd.func53, Tryd.ntmps53
  go_wp2_with fail
  with_reducible refine (WFA.out _).mono ?_
  rintro e w1 ⟨rfl, hb⟩
  have B1 := Lib.hid hb
  clear hb WFA
  go_wp2_with fail
  with_reducible refine (UA.out _).mono ?_
  rintro e w2 ⟨⟨v, rfl, O⟩, hb⟩
  obtain ⟨g, c, rfl, hBg, hgw, hcell⟩ := ri_cells O (by omega)
  have B2 := Lib.hid (Buf.then_ B1.out hb)
  have cap := (ri_cap O _ _ _ rfl).1
  replace hcell := Lib.hid hcell
  clear hb UA O B1
  have hdn : (n : Int) ≤ D.length := by omega
  go_wp2_with (refine wpList_make_ints _ rfl _ _ 22 rfl 3 i0 Tryd.underlying22 hi hz0 hz1 hz2 _ _ n rfl rfl (by omega) (by omega) (by omega) ?_; intro w3 hown hb)
  obtain ⟨q, hq⟩ : ∃ q, q = w2.heap.size := ⟨_, rfl⟩
  have hqw : Hid (w.heap.size ≤ q) := Lib.hid (by rw [hq]; exact B2.out.size)
  rw [← hq] at hown
  have O3 : Hid (Buf.Own q w3 (.slice (some ⟨q, 0, none⟩) n n) (iv (xk X n 0))) := Lib.hid hown
  have B3 := Lib.hid hb
  clear hown hb
  with_reducible refine (S1.out _).mono ?_
  rintro e w4 ⟨rfl, hm⟩
  have b4 := bel_drew hm
  have O4 := O3.out.below b4
  have B4 := Lib.hid (Buf.then_ B3.out b4)
  obtain ⟨_, fk, _⟩ := row_read O4 0 (by rw [xk_len X n 0 hn.out (by omega)]; omega)
  have ST := row_store O4 0 x0
  rw [xk_set X n 0 hn.out (by omega) x0 hx0.out] at ST
  have BS := Lib.hid (B4.out.setCell (p := ⟨q, 0, none⟩) (by show w2.heap.size ≤ q; omega) (.int .i64 x0))
  replace ST := Lib.hid ST
  have n0 : (0 : Int) < n := by omega
  clear hm b4 O4 O3 B3 B4 S1
  rw [← hq]
  replace hq := Lib.hid hq
  go_wp2_with fail
  go_loopw [8] (fun i wr => ∃ k : Nat, 1 ≤ k ∧ k ≤ n ∧ i = .int .i64 (k : Int) ∧ Hid (Buf.Own q wr (.slice (some ⟨q, 0, none⟩) n n) (iv (xk X n k))) ∧ Hid (Below w2.heap.size w2 wr)) (fun i _ => n - (intOf i).toNat)
  case atStart => exact ⟨1, by omega, by omega, rfl, ST, BS⟩
  case round =>
    clear ST BS
    obtain ⟨k, k1, hk, rfl, O, HB⟩ := hrel
    by_cases hlt : k < n
    · have ki : (k : Int) < n := by omega
      obtain ⟨j, hj⟩ : ∃ j, j = k - 1 := ⟨_, rfl⟩
      have ej : (k : Int) - 1 = (j : Int) := by omega
      have jn : (j : Int) < n := by omega
      have jn' : j < n := by omega
      obtain ⟨cj, _, _⟩ := row_read O.out j (by rw [xk_len X n k hn.out (by omega)]; omega)
      rw [xk_get X n k j hn.out (by omega) (by omega)] at cj
      obtain ⟨_, fk, _⟩ := row_read O.out k (by rw [xk_len X n k hn.out (by omega)]; omega)
      have hdk := hd.out k k1 hlt
      have cd0 := (HB.out.cell (p := ⟨g, k, none⟩) hgw).trans (hcell.out k (D.getD k 0) (by rw [List.getD_eq_getElem?_getD, List.getElem?_eq_getElem (by omega)]; rfl))
      rw [← hj] at hdk
      obtain ⟨xj0, xj1⟩ := inX.out j
      obtain ⟨xk0, xk1⟩ := inX.out k
      have ST := row_store O.out k (X.getD k 0)
      rw [xk_set X n k hn.out hlt _ rfl] at ST
      generalize D.getD k 0 = dk at *
      generalize X.getD j 0 = xj at *
      generalize hxk : X.getD k 0 = xk_ at *
      have ed : xj + dk = xk_ := by omega
      have kd : (k : Int) < D.length := by omega
      have kd' : k < D.length := by omega
      have hqq := hq.out
      have BS := Lib.hid (HB.out.setCell (p := ⟨q, k, none⟩) (by show w2.heap.size ≤ q; omega) (.int .i64 xk_))
      replace ST := Lib.hid ST
      replace ed := Lib.hid ed
      have d0 : -2147483646 ≤ dk := by have := ed.out; omega
      have d9 : dk ≤ 2147483646 := by have := ed.out; omega
      replace hj := Lib.hid hj
      replace hxk := Lib.hid hxk
      clear O hdk hqq
      go_wp2_with fail
      rw [← ed.out] at ST BS
      go_region
      all_goals
        have O5 := Lib.hid (ST.out.below (Below.refl _ _).drew)
        have B5 := Lib.hid BS.out.drew
        go_wp2_with fail
        first
        | exact ⟨⟨k + 1, by omega, by omega, by go_num, O5, B5⟩, by simp [intOf]; omega⟩
        | (go_roundw
           case rel => exact ⟨k + 1, by omega, by omega, by go_num, O5, B5⟩
           case measure => simp [intOf]; omega)
    · obtain rfl : n = k := by omega
      have hnk : ¬ ((n : Int) < n) := by omega
      have OW := O.out
      rw [xk_all X n hn.out] at OW
      obtain ⟨b, m, d, e, R⟩ := ro_own OW (by rw [← hn.out]; omega) (fun a n' c' e => by injection e with _ _ e3; omega)
      injection e with e1 e2 e3
      subst e1 e2 e3
      have IR := Lib.hid (inRange_any R hX.out)
      have BW := Lib.hid (Buf.then_ B2.out HB.out)
      have cl := R.cell (n - 1) (by omega)
      rw [Nat.zero_add, hxl.out] at cl
      obtain ⟨j, hj⟩ : ∃ j, j = n - 1 := ⟨_, rfl⟩
      rw [← hj] at cl
      have ej : (n : Int) - 1 = (j : Int) := by omega
      have jn : (j : Int) < n := by omega
      have jn' : j < n := by omega
      replace hj := Lib.hid hj
      replace R := Lib.hid R
      clear O OW HB
      go_wp2_with fail
      with_reducible refine IR.out.mono ?_
      rintro e w5 ⟨rfl, hw⟩
      replace hw := hw.symm
      subst hw
      clear IR
      by_cases hz : xl = z2
      · have hz1 : (xl != z2) = false := by simp [hz]
        go_wp2_with fail
        go_quiet ((go_at_call 72; exact Calls.quiet_of (S2.out _)))
        have bq := Buf.below_drewN (Below.refl wr.heap.size wr) nq
        generalize wr.drewN nq = w6 at *
        replace R := Lib.hid (R.out.below bq)
        replace BW := Lib.hid (Buf.then_ BW.out bq)
        go_wp2_with fail
        go_ret2
        exact ⟨.inl ⟨hz, _, _, rfl, R.out, fun g o e => by cases e; exact hqw.out⟩, BW.out⟩
      · have hz1 : (xl != z2) = true := by simp [hz]
        go_wp2_with fail
        go_quiet ((go_at_call 72; exact Calls.quiet_of (S2.out _)))
        have bq := Buf.below_drewN (Below.refl wr.heap.size wr) nq
        generalize wr.drewN nq = w6 at *
        replace BW := Lib.hid (Buf.then_ BW.out bq)
        go_wp2_with fail
        go_ret2
        exact ⟨.inr ⟨hz, rfl⟩, BW.out⟩
theorem decode_any (A : List Int) (F : Nat) (h : WF A F) (X : List Int) (n : Nat) (hn : n = X.length) (n1 : 1 ≤ n) (n9 : n ≤ 420) (hX : InS X) (h0 : X.getD 0 0 = Ma.sg (A.getD 1 0) 2147483648 4294967296)
    (hD : n ≤ (UN A (16 * F)).length) (hd : ∀ i, 1 ≤ i → i < n → (UN A (16 * F)).getD i 0 = X.getD i 0 - X.getD (i - 1) 0) (xl z2 : Int) (hxl : X.getD (n - 1) 0 = xl) (hz2' : Ma.sg (A.getD 2 0) 2147483648 4294967296 = z2) (w : World) :
    Calls Tryd.prog 53 #[.string ⟨⟨bys A⟩⟩, .int .i64 (n : Nat)] w fun e w' =>
      ((xl = z2 ∧ ∃ b c, e = .returned (.tuple #[.slice b n c, .int .i64 0]) ∧ Ro w' b n c X) ∨ (xl ≠ z2 ∧ e = .returned (.tuple #[.slice none 0 0, .int .i64 11]))) ∧ Below w.heap.size w w' :=
  (decode_anyB A F h X n hn n1 n9 hX h0 hD hd xl z2 hxl hz2' w).mono fun e w' ⟨q, b⟩ => ⟨q.imp (fun ⟨x, b, c, y, z, _⟩ => ⟨x, b, c, y, z⟩) id, b⟩
end St
end Go.Proofs.YtfebacopbacopaaDoor
