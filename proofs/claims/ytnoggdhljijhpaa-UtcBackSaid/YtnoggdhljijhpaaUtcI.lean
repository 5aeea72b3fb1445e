/- times of layer 1's laws. -/
import Derived.Test.YtnoggdhljijhpaaUtcK
import Derived.Test.YtnoggdhljijhpaaInv
set_option linter.unusedVariables false
set_option linter.unusedSimpArgs false
namespace Go.Proofs.Ytnoggdhljijhpaa
open Go.RowKit Dice Ri
namespace Utc
theorem wrap_in (x : Int) (h0 : -9000000000000000000 ≤ x) (h1 : x ≤ 9000000000000000000) : IntKind.i64.wrap x = x := IntWalk.i64_in _ (by omega)
theorem mul_in (x k : Int) (h0 : -9000000000000000000 ≤ x * k) (h1 : x * k ≤ 9000000000000000000) : IntKind.i64.wrap (x * k) = x * k := IntWalk.i64_in _ (by omega)
/-- append of a new cell, as one operation. -/
theorem wp_app {o : Oper} {a : Act} {K : Act → World → Prop} {Q : Exit → Act → World → Prop} {w : World} (s x : Operand)
    (ho : o.op = .call { callee := .builtin .append, args := #[s, x], argTypes := #[28, 28] }) (B : Nat) (u : Value) (M : List Int) (hs : a.eval s = u) (O : Buf.Own B w u (iv M)) (h : Nat) {p : Int} (hx : a.eval x = .slice (some ⟨h, 0, none⟩) 1 1) (hlt : h < w.heap.size) (hc : w.cell? ⟨h, 0, none⟩ = some (.int .i64 p))
    (n9 : M.length ≤ 100000) (hB : B ≤ w.heap.size)
    (hh : ∀ v' w', Buf.Own B w' v' (iv M ++ [.int .i64 p]) → Below B w w' → K (a.put o.dst v') w') : o.wp Try.prog a w K Q := by
  obtain ⟨i0, hi, hz0, hz1, hz2⟩ := info_parts infoI
  have hsrc : Src Try.prog 1 28 (.slice (some ⟨h, 0, none⟩) 1 1) 1 [.int .i64 p] w := Src.ofSlice _ Try.underlying28 ⟨h, 0, none⟩ 1 1 [.int .i64 p] rfl (fun q u hu => by
    cases q with
    | zero => simp at hu; subst hu; exact hc
    | succ q => simp at hu) (fun u hu => by simp at hu; subst hu; rfl)
  obtain ⟨v', w', hrun, r1, r2⟩ := Buf.run_append (P := Try.prog) 28 28 o.type 3 i0 (.int .i64 0) 8 Try.underlying28 hi hz0 hz1 hz2 rfl O hB _ 1 [.int .i64 p] hsrc (by rw [iv_length]; unfold maxLen; omega) (by rw [iv_length]; omega)
  unfold Oper.wp
  simp [execOp, ho, resolve, invoke, builtin, hs, hx, hrun, Result.andThen]
  exact hh v' w' r1 (Buf.below_grown (Below.refl _ _) O hB r2)
/-- The memory of times: the list under way, and the table. -/
structure TK (W w : World) (d : Nat) (a : Option Addr) (len cap : Nat) (zs : List Int) (B g n c : Nat) (L : List Int) (wr : World) (v : Value) (T : List Int) : Prop where
  m : LM W w d a len cap zs wr v T
  own : Buf.Own B wr (.slice (some ⟨g, 0, none⟩) n c) (iv L)
  lo : d < B
  hi : g < w.heap.size
theorem TK.left {W w w1 w2 : World} {d : Nat} {a : Option Addr} {len cap : Nat} {zs : List Int} {B g n c : Nat} {L T : List Int} {v : Value} (M : TK W w d a len cap zs B g n c L w1 v T) (hl : Dice.Left W w1 w2 d a len cap zs) : TK W w d a len cap zs B g n c L w2 v T := ⟨M.m.left hl, own_grown M.own hl.far M.lo, M.lo, M.hi⟩
theorem TK.below {W w w1 w2 : World} {d : Nat} {a : Option Addr} {len cap : Nat} {zs : List Int} {B g n c : Nat} {L T : List Int} {v : Value} (M : TK W w d a len cap zs B g n c L w1 v T) (hb : Below w1.heap.size w1 w2) : TK W w d a len cap zs B g n c L w2 v T := ⟨M.m.below hb, M.own.below hb, M.lo, M.hi⟩
theorem own_past {B N : Nat} {w w' : World} {g n c : Nat} {L : List Int} (h : Buf.Own B w (.slice (some ⟨g, 0, none⟩) n c) (iv L)) (hg : g < N) (hb : Below N w w') : Buf.Own B w' (.slice (some ⟨g, 0, none⟩) n c) (iv L) := by
  rcases h with ⟨e, _⟩ | ⟨g', c', e, hb'⟩
  · cases e
  · injection e with e1 e2 e3
    injection e1 with e1
    injection e1 with e1
    subst e1 e2 e3
    exact .inr ⟨g, c, rfl, hb'.of_block (hb.block g hg) hb.size⟩
theorem TK.append {W w w1 w2 : World} {d : Nat} {a : Option Addr} {len cap : Nat} {zs : List Int} {B g n c : Nat} {L T : List Int} {v v' : Value} {x : Int} (M : TK W w d a len cap zs B g n c L w1 v T) (hb : Below w.heap.size w1 w2) (ho : Buf.Own w.heap.size w2 v' (iv T ++ [.int .i64 x])) : TK W w d a len cap zs B g n c L w2 v' (T ++ [x]) := ⟨M.m.append hb ho, own_past M.own M.hi hb, M.lo, M.hi⟩
theorem TK.cell {W w wr : World} {d : Nat} {a : Option Addr} {len cap : Nat} {zs : List Int} {B g n c : Nat} {L T : List Int} {v : Value} (M : TK W w d a len cap zs B g n c L wr v T) (k : Nat) (hk : k < L.length) : wr.cell? ⟨g, k, none⟩ = some (.int .i64 (L.getD k 0)) := (row_read M.own k hk).1
theorem mod_any (x : Int) (n : Int) (w : World) (x0 : -9223372036854775808 ≤ x) (x9 : x ≤ 9223372036854775807) (n0 : 1 ≤ n) (n9 : n ≤ 9100000000000000) :
    Calls Try.prog 20 #[.int .i64 x, .int .i64 n] w fun e w' => (∃ r : Int, e = .returned (.int .i64 r) ∧ 0 ≤ r ∧ r < n) ∧ w' = w := by
  obtain ⟨r, hr⟩ : ∃ r, x.tmod n = r := ⟨_, rfl⟩
  have r1 : -n < r := by rw [← hr]; have := Int.lt_tmod_of_pos x (show 0 < n by omega); omega
  have r2 : r < n := by rw [← hr]; exact Int.tmod_lt_of_pos x (by omega)
  have q0 : 0 ≤ (r + n).tmod n := Int.tmod_nonneg _ (by omega)
  have q9 : (r + n).tmod n < n := Int.tmod_lt_of_pos _ (by omega)
  obtain ⟨q, hq⟩ : ∃ q, (r + n).tmod n = q := ⟨_, rfl⟩
  have hq2 : (r + n) % n = q := by rw [← hq, Int.tmod_eq_emod_of_nonneg (by omega)]
  rw [hq] at q0 q9
  go_enter Try.func20, Try.ntmps20
  go_wp2
  go_ret
  exact ⟨⟨_, rfl, by first | exact q0 | (rw [hq2]; exact q0), by first | exact q9 | (rw [hq2]; exact q9)⟩, rfl⟩
/-- What times returns: a list of numbers. -/
def Timed (B : Nat) (w : World) (e : Ending) : Prop := ∃ v T, e = .returned v ∧ Buf.Own B w v (iv T) ∧ T.length ≤ 10
set_option maxHeartbeats 8000000 in
set_option maxRecDepth 100000 in
theorem times_any {W w : World} {d : Nat} {a : Option Addr} {len cap : Nat} {zs : List Int} (h : Di W w d a len cap zs) {B g n c : Nat} {L : List Int} (hd : d < B) (hl : Buf.Own B w (.slice (some ⟨g, 0, none⟩) n c) (iv L)) (hv : VT L) (l4 : L.length ≤ 4) (t : Int) (t0 : -9223372036854775808 ≤ t) (t9 : t ≤ 9223372036854775807) :
    Calls Try.prog 19 #[.pointer (some ⟨d, 0, none⟩), .slice (some ⟨g, 0, none⟩) n c, .int .i64 t] w fun e w' => Timed w.heap.size w' e ∧ Dice.Left W w w' d a len cap zs := by
  have ro := own_ro hl
  have hn := ro.len
  have hnc := ro.nc
  have hcap := ro.cap
  have hg : g < w.heap.size := hl.lt
  have HD := Lib.hid h
  have HL := Lib.hid hl
  have HV := Lib.hid hv
  replace hn := Lib.hid hn
  clear h hl hv ro
  go_enter Try.func19, Try.ntmps19
  go_wp2_with (go_at_call 20; refine (mod_any _ _ _ t0 t9 (by omega) (by omega)).mono ?_; rintro e w' ⟨⟨r, rfl, _, _⟩, hw⟩; replace hw := hw.symm; subst hw)
  have M0 : Hid (TK W w d a len cap zs B g n c L (w.alloc (.cells #[.int .i64 t, .int .i64 0, .int .i64 9007199254740992, .int .i64 9007199254740993, .int .i64 (-1), .int .i64 r] 3)) (.slice (some ⟨w.heap.size, 0, none⟩) 6 6) [t, 0, 9007199254740992, 9007199254740993, -1, r]) := Lib.hid ⟨⟨(Left.refl HD.out).below (new_block _), Buf.own_lit w 3 (iv [t, 0, 9007199254740992, 9007199254740993, -1, r]) (by rw [iv_length]; unfold maxLen; simp), HD.out⟩, HL.out.below (new_block _), hd, hg⟩
  have n4 : n ≤ 4 := by have := hn.out; omega
  go_loopw [7, 15] (fun v i wr => ∃ (k : Nat) (T : List Int), i = .int .i64 k ∧ k ≤ n ∧ T.length ≤ 6 + k ∧ Hid (TK W w d a len cap zs B g n c L wr v T)) (fun _ i _ => (n - intOf i).toNat)
  case atStart => exact ⟨0, _, rfl, by omega, by simp, M0⟩
  case round =>
    clear M0
    obtain ⟨ki, T, rfl, hk, hT, M⟩ := hrel
    by_cases hlt : ki < n
    · obtain ⟨av, cv, rfl, _, _⟩ := own_form M.out.m.own
      obtain ⟨nT, hnT⟩ : ∃ nT, nT = T.length := ⟨_, rfl⟩
      rw [← hnT] at M hT ⊢
      replace hnT := Lib.hid hnT
      have CX := Lib.hid fun wx (h : TK W w d a len cap zs B g n c L wx (.slice av nT cv) T) => h.cell ki (by rw [← hn.out]; exact hlt)
      obtain ⟨v1, v2, v3⟩ := HV.out.val ki (by rw [← hn.out]; exact hlt)
      generalize L.getD ki 0 = x at *
      have x0 : 0 ≤ x := by omega
      clear v2 v3
      obtain ⟨X, hX⟩ : ∃ X, X = x * 1000000 := ⟨_, rfl⟩
      have X0 : 0 ≤ X := by omega
      have X9 : X ≤ 9007199254000000 := by omega
      have wX := Lib.hid (show IntKind.i64.wrap (x * 1000000) = X by rw [hX]; exact mul_in _ _ (by omega) (by omega))
      replace hX := Lib.hid hX
      have hkn : (ki : Int) < n := by omega
      go_upto_region 5 with fail
      refine wp_region_noPanic ?_
      refine wp_region_any (by kernel_rfl) ?_
      have hw0 : TK W w d a len cap zs B g n c L wr.drew (.slice av nT cv) T := M.out.below (Below.refl _ _).drew
      refine Inv.wpAny_inv (fun k => k == 16 || k == 17) [18, 19, 20, 21, 22, 23, 24, 25, 26, 27, 28, 29, 30, 31, 32, 33] (fun w' => TK W w d a len cap zs B g n c L w' (.slice av nT cv) T) (fun _ w1 w2 => w1.grownBy w2 (some d)) (fun k => ([fun v_ w_ => v_ = .slice av nT cv, fun v_ w_ => v_ = .slice (some ⟨g, 0, none⟩) n c, fun v_ w_ => v_ = .int .i64 ki, fun v_ w_ => v_ = .pointer (some ⟨g, ki, none⟩), fun v_ w_ => v_ = .int .i64 x, fun v_ w_ => v_ = .int .i64 X, fun v_ w_ => v_ = .pointer (some ⟨d, 0, none⟩), fun v_ w_ => ∃ p : Int, v_ = .int .i64 p ∧ 0 ≤ p ∧ p < 3, fun v_ w_ => ∃ p : Int, v_ = .int .i64 p ∧ 0 ≤ p ∧ p ≤ 2000000, fun v_ w_ => ∃ p : Int, v_ = .int .i64 p ∧ 0 ≤ p ∧ p ≤ 9007199256000000, fun v_ w_ => ∃ p : Int, v_ = .int .i64 p ∧ -1000000 ≤ p ∧ p ≤ 9007199256000000, fun v_ w_ => v_ = .pointer (some ⟨d, 0, none⟩), fun v_ w_ => ∃ p : Int, v_ = .int .i64 p ∧ 0 ≤ p ∧ p < 2, fun v_ w_ => ∃ p : Int, v_ = .int .i64 p ∧ 0 ≤ p ∧ p ≤ 999999, fun v_ w_ => ∃ p : Int, v_ = .int .i64 p, fun v_ w_ => ∃ (h : Nat) (p : Int), v_ = .slice (some ⟨h, 0, none⟩) 1 1 ∧ h < w_.heap.size ∧ h ≠ d ∧ w_.cell? ⟨h, 0, none⟩ = some (.int .i64 p), fun v_ w_ => True, fun v_ w_ => True] : List (Value → World → Prop)).getD k (fun _ _ => True)) _ (fun σ => by simp only [Inv.putAll, List.foldl_cons, List.foldl_nil, Act.put, List.setIfInBounds_toArray, List.set_cons_zero, List.set_cons_succ]; rfl) (by kernel_rfl) (by kernel_rfl) ?_ hw0 ?_ ?_ 2 #[true, true, true, true, true, true, true, true, true, true, true, true, true, true, true, true, false, false] (by kernel_rfl) (by kernel_rfl) ?_
      · intro j k v w1 w2 hjk hv hr
        rcases k with _ | k
        · exact hv
        rcases k with _ | k
        · exact hv
        rcases k with _ | k
        · exact hv
        rcases k with _ | k
        · exact hv
        rcases k with _ | k
        · exact hv
        rcases k with _ | k
        · exact hv
        rcases k with _ | k
        · exact hv
        rcases k with _ | k
        · exact hv
        rcases k with _ | k
        · exact hv
        rcases k with _ | k
        · exact hv
        rcases k with _ | k
        · exact hv
        rcases k with _ | k
        · exact hv
        rcases k with _ | k
        · exact hv
        rcases k with _ | k
        · exact hv
        rcases k with _ | k
        · exact hv
        rcases k with _ | k
        · exact (by obtain ⟨h, p, h1, h2, h3, h4⟩ := hv; exact ⟨h, p, h1, Nat.lt_of_lt_of_le h2 hr.size, h3, (World.cell?_of_block (a := ⟨h, 0, none⟩) (hr.block h h2 (by simpa using h3))).trans h4⟩)
        rcases k with _ | k
        · exact hv
        rcases k with _ | k
        · exact hv
        · exact hv
      · intro k t hl hd
        rcases k with _ | k
        · exact absurd hl (by decide +kernel)
        rcases k with _ | k
        · exact absurd hl (by decide +kernel)
        rcases k with _ | k
        · exact absurd hl (by decide +kernel)
        rcases k with _ | k
        · exact absurd hl (by decide +kernel)
        rcases k with _ | k
        · exact absurd hl (by decide +kernel)
        rcases k with _ | k
        · exact absurd hl (by decide +kernel)
        rcases k with _ | k
        · exact absurd hl (by decide +kernel)
        rcases k with _ | k
        · exact absurd hl (by decide +kernel)
        rcases k with _ | k
        · exact absurd hl (by decide +kernel)
        rcases k with _ | k
        · exact absurd hl (by decide +kernel)
        rcases k with _ | k
        · exact absurd hl (by decide +kernel)
        rcases k with _ | k
        · exact absurd hl (by decide +kernel)
        rcases k with _ | k
        · exact absurd hl (by decide +kernel)
        rcases k with _ | k
        · exact absurd hl (by decide +kernel)
        rcases k with _ | k
        · exact absurd hl (by decide +kernel)
        rcases k with _ | k
        · exact absurd hl (by decide +kernel)
        rcases k with _ | k
        · exact absurd hl (by decide +kernel)
        rcases k with _ | k
        · exact absurd hl (by decide +kernel)
        · simp at hd
      · show Inv.Steps _ _ _ _ _ _ _ _ [0, 1, 2, 3, 4, 5, 6, 7, 8, 9, 10, 11, 12, 13, 14, 15]
        refine Inv.Steps.go (by decide) (by rfl) (fun σ wx hw hd K hK => ?_) ?_
        · simp only [List.getElem_toArray, List.getElem_cons_zero, List.getElem_cons_succ, Act.put, List.setIfInBounds_toArray, List.set_cons_zero, List.set_cons_succ] at hK ⊢
          go_simp
          exact hK.out _ _ hw (grown_of_below (Below.refl _ _)) (rfl)
        refine Inv.Steps.go (by decide) (by rfl) (fun σ wx hw hd K hK => ?_) ?_
        · simp only [List.getElem_toArray, List.getElem_cons_zero, List.getElem_cons_succ, Act.put, List.setIfInBounds_toArray, List.set_cons_zero, List.set_cons_succ] at hK ⊢
          go_simp
          exact hK.out _ _ hw (grown_of_below (Below.refl _ _)) (rfl)
        refine Inv.Steps.go (by decide) (by rfl) (fun σ wx hw hd K hK => ?_) ?_
        · simp only [List.getElem_toArray, List.getElem_cons_zero, List.getElem_cons_succ, Act.put, List.setIfInBounds_toArray, List.set_cons_zero, List.set_cons_succ] at hK ⊢
          go_simp
          exact hK.out _ _ hw (grown_of_below (Below.refl _ _)) (rfl)
        refine Inv.Steps.go (by decide) (by rfl) (fun σ wx hw hd K hK => ?_) ?_
        · obtain e19 : (σ 19) = .slice (some ⟨g, 0, none⟩) n c := hd 1 (some 19) (by kernel_rfl) (by rfl)
          obtain e20 : (σ 20) = .int .i64 ki := hd 2 (some 20) (by kernel_rfl) (by rfl)
          simp only [List.getElem_toArray, List.getElem_cons_zero, List.getElem_cons_succ, Act.put, List.setIfInBounds_toArray, List.set_cons_zero, List.set_cons_succ, e19, e20] at hK ⊢
          go_simp
          exact hK.out _ _ hw (grown_of_below (Below.refl _ _)) (rfl)
        refine Inv.Steps.go (by decide) (by rfl) (fun σ wx hw hd K hK => ?_) ?_
        · obtain e21 : (σ 21) = .pointer (some ⟨g, ki, none⟩) := hd 3 (some 21) (by kernel_rfl) (by rfl)
          simp only [List.getElem_toArray, List.getElem_cons_zero, List.getElem_cons_succ, Act.put, List.setIfInBounds_toArray, List.set_cons_zero, List.set_cons_succ, e21] at hK ⊢
          have cx := CX.out _ hw
          go_simp
          exact hK.out _ _ hw (grown_of_below (Below.refl _ _)) (rfl)
        refine Inv.Steps.go (by decide) (by rfl) (fun σ wx hw hd K hK => ?_) ?_
        · obtain e22 : (σ 22) = .int .i64 x := hd 4 (some 22) (by kernel_rfl) (by rfl)
          simp only [List.getElem_toArray, List.getElem_cons_zero, List.getElem_cons_succ, Act.put, List.setIfInBounds_toArray, List.set_cons_zero, List.set_cons_succ, e22] at hK ⊢
          go_simp
          try rw [wX.out]
          exact hK.out _ _ hw (grown_of_below (Below.refl _ _)) (rfl)
        refine Inv.Steps.go (by decide) (by rfl) (fun σ wx hw hd K hK => ?_) ?_
        · simp only [List.getElem_toArray, List.getElem_cons_zero, List.getElem_cons_succ, Act.put, List.setIfInBounds_toArray, List.set_cons_zero, List.set_cons_succ] at hK ⊢
          go_simp
          exact hK.out _ _ hw (grown_of_below (Below.refl _ _)) (rfl)
        refine Inv.Steps.go (by decide) (by rfl) (fun σ wx hw hd K hK => ?_) ?_
        · obtain e24 : (σ 24) = .pointer (some ⟨d, 0, none⟩) := hd 6 (some 24) (by kernel_rfl) (by rfl)
          simp only [List.getElem_toArray, List.getElem_cons_zero, List.getElem_cons_succ, Act.put, List.setIfInBounds_toArray, List.set_cons_zero, List.set_cons_succ, e24] at hK ⊢
          go_simp
          go_at_call 15
          refine (next_any 3 hw.m.L.di (by omega) (by omega)).mono ?_
          rintro e w1 ⟨⟨p, rfl, p0, p9⟩, hl⟩
          dsimp only
          exact hK.out _ _ (hw.left hl) hl.far (⟨p, rfl, p0, p9⟩)
        refine Inv.Steps.go (by decide) (by rfl) (fun σ wx hw hd K hK => ?_) ?_
        · obtain ⟨p25, e25, l25, u25⟩ : ∃ p : Int, (σ 25) = .int .i64 p ∧ 0 ≤ p ∧ p < 3 := hd 7 (some 25) (by kernel_rfl) (by rfl)
          simp only [List.getElem_toArray, List.getElem_cons_zero, List.getElem_cons_succ, Act.put, List.setIfInBounds_toArray, List.set_cons_zero, List.set_cons_succ, e25] at hK ⊢
          have wq := mul_in p25 1000000 (by omega) (by omega)
          go_simp
          try rw [wq]
          exact hK.out _ _ hw (grown_of_below (Below.refl _ _)) (⟨_, rfl, by omega, by omega⟩)
        refine Inv.Steps.go (by decide) (by rfl) (fun σ wx hw hd K hK => ?_) ?_
        · obtain e23 : (σ 23) = .int .i64 X := hd 5 (some 23) (by kernel_rfl) (by rfl)
          obtain ⟨p26, e26, l26, u26⟩ : ∃ p : Int, (σ 26) = .int .i64 p ∧ 0 ≤ p ∧ p ≤ 2000000 := hd 8 (some 26) (by kernel_rfl) (by rfl)
          simp only [List.getElem_toArray, List.getElem_cons_zero, List.getElem_cons_succ, Act.put, List.setIfInBounds_toArray, List.set_cons_zero, List.set_cons_succ, e23, e26] at hK ⊢
          have wq := wrap_in (X + p26) (by omega) (by omega)
          go_simp
          try rw [wq]
          exact hK.out _ _ hw (grown_of_below (Below.refl _ _)) (⟨_, rfl, by omega, by omega⟩)
        refine Inv.Steps.go (by decide) (by rfl) (fun σ wx hw hd K hK => ?_) ?_
        · obtain ⟨p27, e27, l27, u27⟩ : ∃ p : Int, (σ 27) = .int .i64 p ∧ 0 ≤ p ∧ p ≤ 9007199256000000 := hd 9 (some 27) (by kernel_rfl) (by rfl)
          simp only [List.getElem_toArray, List.getElem_cons_zero, List.getElem_cons_succ, Act.put, List.setIfInBounds_toArray, List.set_cons_zero, List.set_cons_succ, e27] at hK ⊢
          have wq := wrap_in (p27 - 1000000) (by omega) (by omega)
          go_simp
          try rw [wq]
          exact hK.out _ _ hw (grown_of_below (Below.refl _ _)) (⟨_, rfl, by omega, by omega⟩)
        refine Inv.Steps.go (by decide) (by rfl) (fun σ wx hw hd K hK => ?_) ?_
        · simp only [List.getElem_toArray, List.getElem_cons_zero, List.getElem_cons_succ, Act.put, List.setIfInBounds_toArray, List.set_cons_zero, List.set_cons_succ] at hK ⊢
          go_simp
          exact hK.out _ _ hw (grown_of_below (Below.refl _ _)) (rfl)
        refine Inv.Steps.go (by decide) (by rfl) (fun σ wx hw hd K hK => ?_) ?_
        · obtain e29 : (σ 29) = .pointer (some ⟨d, 0, none⟩) := hd 11 (some 29) (by kernel_rfl) (by rfl)
          simp only [List.getElem_toArray, List.getElem_cons_zero, List.getElem_cons_succ, Act.put, List.setIfInBounds_toArray, List.set_cons_zero, List.set_cons_succ, e29] at hK ⊢
          go_simp
          go_at_call 15
          refine (next_any 2 hw.m.L.di (by omega) (by omega)).mono ?_
          rintro e w1 ⟨⟨p, rfl, p0, p9⟩, hl⟩
          dsimp only
          exact hK.out _ _ (hw.left hl) hl.far (⟨p, rfl, p0, p9⟩)
        refine Inv.Steps.go (by decide) (by rfl) (fun σ wx hw hd K hK => ?_) ?_
        · obtain ⟨p30, e30, l30, u30⟩ : ∃ p : Int, (σ 30) = .int .i64 p ∧ 0 ≤ p ∧ p < 2 := hd 12 (some 30) (by kernel_rfl) (by rfl)
          simp only [List.getElem_toArray, List.getElem_cons_zero, List.getElem_cons_succ, Act.put, List.setIfInBounds_toArray, List.set_cons_zero, List.set_cons_succ, e30] at hK ⊢
          have wq := mul_in p30 999999 (by omega) (by omega)
          go_simp
          try rw [wq]
          exact hK.out _ _ hw (grown_of_below (Below.refl _ _)) (⟨_, rfl, by omega, by omega⟩)
        refine Inv.Steps.go (by decide) (by rfl) (fun σ wx hw hd K hK => ?_) ?_
        · obtain ⟨p28, e28, l28, u28⟩ : ∃ p : Int, (σ 28) = .int .i64 p ∧ -1000000 ≤ p ∧ p ≤ 9007199256000000 := hd 10 (some 28) (by kernel_rfl) (by rfl)
          obtain ⟨p31, e31, l31, u31⟩ : ∃ p : Int, (σ 31) = .int .i64 p ∧ 0 ≤ p ∧ p ≤ 999999 := hd 13 (some 31) (by kernel_rfl) (by rfl)
          simp only [List.getElem_toArray, List.getElem_cons_zero, List.getElem_cons_succ, Act.put, List.setIfInBounds_toArray, List.set_cons_zero, List.set_cons_succ, e28, e31] at hK ⊢
          have wq := wrap_in (p28 + p31) (by omega) (by omega)
          go_simp
          try rw [wq]
          exact hK.out _ _ hw (grown_of_below (Below.refl _ _)) (⟨_, rfl⟩)
        refine Inv.Steps.go (by decide) (by rfl) (fun σ wx hw hd K hK => ?_) ?_
        · obtain ⟨p32, e32⟩ : ∃ p : Int, (σ 32) = .int .i64 p := hd 14 (some 32) (by kernel_rfl) (by rfl)
          simp only [List.getElem_toArray, List.getElem_cons_zero, List.getElem_cons_succ, Act.put, List.setIfInBounds_toArray, List.set_cons_zero, List.set_cons_succ, e32] at hK ⊢
          have hnew := heap_alloc_new wx (.cells #[.int .i64 p32] 3)
          go_simp
          exact hK.out _ _ (hw.below (new_block _)) (grown_of_below (new_block _)) (⟨wx.heap.size, p32, rfl, by simp, by have := hw.m.L.di.lt; omega, (World.cell?_alloc_mark wx #[.int .i64 p32] 3 (0, 0) 0).trans rfl⟩)
        exact Inv.Steps.nil
      · intro σ wx hw hd
        obtain e18 : (σ 18) = .slice av nT cv := hd 0 (some 18) (by kernel_rfl) (by rfl)
        obtain ⟨h, p, e33, l33, d33, c33⟩ : ∃ (h : Nat) (p : Int), (σ 33) = .slice (some ⟨h, 0, none⟩) 1 1 ∧ h < wx.heap.size ∧ h ≠ d ∧ wx.cell? ⟨h, 0, none⟩ = some (.int .i64 p) := hd 15 (some 33) (by kernel_rfl) (by rfl)
        simp only [e18, e33]
        refine Inv.one (i := 16) (by decide) (by kernel_rfl) (by rfl) (fun K hK => ?_)
        simp only [List.getElem_toArray, List.getElem_cons_zero, List.getElem_cons_succ, Act.put, List.setIfInBounds_toArray, List.set_cons_zero, List.set_cons_succ] at hK ⊢
        refine wp_app (.tmp 18) (.tmp 33) rfl w.heap.size _ T rfl hw.m.own h rfl l33 c33 (by have := hnT.out; omega) hw.m.L.far.size ?_
        intro v' w' ho hb
        refine hK.out _ _ ?_
        clear hK K
        try simp only [Act.put, List.setIfInBounds_toArray, List.set_cons_zero, List.set_cons_succ]
        have hw2 := hw.append hb ho
        refine Inv.one (i := 17) (by decide) (by kernel_rfl) (by rfl) (fun K hK => ?_)
        simp only [List.getElem_toArray, List.getElem_cons_zero, List.getElem_cons_succ, Act.put, List.setIfInBounds_toArray, List.set_cons_zero, List.set_cons_succ] at hK ⊢
        go_simp
        refine hK.out _ _ ?_
        clear hK K
        try simp only [Act.put, List.setIfInBounds_toArray, List.set_cons_zero, List.set_cons_succ]
        refine Inv.done (by kernel_rfl) (NoPanic.normal ?_)
        replace hw2 := Lib.hid hw2
        clear hw hd hb ho l33 c33
        go_wp2_with fail
        exact ⟨⟨ki + 1, _, by go_num, by omega, by have := hnT.out; simp; omega, hw2⟩, by simp [intOf]; omega⟩
    · obtain rfl : ki = n := by omega
      go_wp2_with fail
      go_ret
      exact ⟨⟨_, T, rfl, M.out.m.own, by omega⟩, M.out.m.L⟩
set_option maxHeartbeats 4000000 in
theorem times_nil {W w : World} {d : Nat} {a : Option Addr} {len cap : Nat} {zs : List Int} (h : Di W w d a len cap zs) (t : Int) (t0 : -9223372036854775808 ≤ t) (t9 : t ≤ 9223372036854775807) :
    Calls Try.prog 19 #[.pointer (some ⟨d, 0, none⟩), .slice none 0 0, .int .i64 t] w fun e w' => Timed w.heap.size w' e ∧ Dice.Left W w w' d a len cap zs := by
  have HD := Lib.hid h
  clear h
  go_enter Try.func19, Try.ntmps19
  go_wp2_with (go_at_call 20; refine (mod_any _ _ _ t0 t9 (by omega) (by omega)).mono ?_; rintro e w' ⟨⟨r, rfl, _, _⟩, hw⟩; replace hw := hw.symm; subst hw)
  have M0 : Hid (Buf.Own w.heap.size (w.alloc (.cells #[.int .i64 t, .int .i64 0, .int .i64 9007199254740992, .int .i64 9007199254740993, .int .i64 (-1), .int .i64 r] 3)) (.slice (some ⟨w.heap.size, 0, none⟩) 6 6) (iv [t, 0, 9007199254740992, 9007199254740993, -1, r])) := Lib.hid (Buf.own_lit w 3 (iv [t, 0, 9007199254740992, 9007199254740993, -1, r]) (by rw [iv_length]; unfold maxLen; simp))
  have M1 := Lib.hid ((Left.refl HD.out).below (new_block (.cells #[.int .i64 t, .int .i64 0, .int .i64 9007199254740992, .int .i64 9007199254740993, .int .i64 (-1), .int .i64 r] 3)))
  go_loop [7, 15] (fun v i => v = .slice (some ⟨w.heap.size, 0, none⟩) 6 6 ∧ i = .int .i64 0) (fun _ _ => 0)
  case atStart => exact ⟨rfl, rfl⟩
  case round =>
    obtain ⟨rfl, rfl⟩ := hrel
    go_wp2_with fail
    go_ret
    exact ⟨⟨.slice (some ⟨w.heap.size, 0, none⟩) 6 6, [t, 0, 9007199254740992, 9007199254740993, -1, r], rfl, M0.out, by simp⟩, M1.out⟩
theorem times_all {W w : World} {d : Nat} {a : Option Addr} {len cap : Nat} {zs : List Int} (h : Di W w d a len cap zs) {B n c : Nat} {ad : Option Addr} {L : List Int} (hd : d < B) (hl : Buf.Own B w (.slice ad n c) (iv L)) (hv : VT L) (l4 : L.length ≤ 4) (t : Int) (t0 : -9223372036854775808 ≤ t) (t9 : t ≤ 9223372036854775807) :
    Calls Try.prog 19 #[.pointer (some ⟨d, 0, none⟩), .slice ad n c, .int .i64 t] w fun e w' => Timed w.heap.size w' e ∧ Dice.Left W w w' d a len cap zs := by
  rcases hl with ⟨e, h0⟩ | ⟨g, c', e, hb⟩
  · rw [e]; exact times_nil h t t0 t9
  · have hl' : Buf.Own B w (.slice ad n c) (iv L) := .inr ⟨g, c', e, hb⟩
    rw [e] at hl' ⊢
    exact times_any h hd hl' hv l4 t t0 t9
end Utc
end Go.Proofs.Ytnoggdhljijhpaa
