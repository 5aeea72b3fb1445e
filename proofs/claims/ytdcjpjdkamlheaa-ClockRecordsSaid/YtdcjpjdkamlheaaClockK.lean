/- Contracts of the run of a tag, its bounds, and Correct at any valid anchors. -/
import Derived.Test.YtdcjpjdkamlheaaClockI
import Derived.Lib.MinMax
set_option linter.unusedVariables false
namespace Go.Proofs.Ytdcjpjdkamlheaa
open Go.RowKit Wi Dice
namespace Clock
theorem ji_at {js : List Nat} {k : Nat} (h : k < js.length) : (ji js)[k]? = some (.int .i64 ((js.getD k 0 : Nat) : Int)) := by
  simp [ji, List.getD_eq_getElem?_getD, List.getElem?_eq_getElem h]
theorem own_row {B : Nat} {w : World} {v : Value} {js : List Nat} (h : Buf.Own B w v (ji js)) : (v = .slice none 0 0 ∧ js = []) ∨ ∃ p c, v = .slice (some ⟨p, 0, none⟩) js.length c ∧ js.length ≤ c ∧ ∀ k, k < js.length → w.cell? ⟨p, k, none⟩ = some (.int .i64 ((js.getD k 0 : Nat) : Int)) := by
  rcases h with ⟨h1, h2⟩ | ⟨g, cap, e, hb⟩
  · exact .inl ⟨h1, by simpa [ji] using h2⟩
  · rw [ji_len] at e hb
    exact .inr ⟨g, cap, e, hb.le, fun k hk => by rw [hb.cells k hk]; exact ji_at hk⟩
theorem drop_cons {js : List Nat} {k : Nat} (h : k < js.length) : js.drop k = js.getD k 0 :: js.drop (k + 1) := by
  rw [List.drop_eq_getElem_cons h]; simp [List.getD_eq_getElem?_getD, List.getElem?_eq_getElem h]
theorem run_any {n : Nat} {T L H : Nat → Int} {js : List Nat} {v : Value} {B : Nat} (tag : Int) (g c : Nat) (w : World) (n5 : n ≤ 5) (hj5 : js.length ≤ 5) (hjs : ∀ k, k < js.length → js.getD k 0 < n) (a : As w g n T L H) (ho : Buf.Own B w v (ji js)) :
    Calls Try.prog 39 #[.slice (some ⟨g, 0, none⟩) n c, v, .int .i64 tag] w fun e w' => e = .returned (.tuple #[.int .i64 ((runOf T tag n js 0).1 : Nat), .int .i64 ((runOf T tag n js 0).2 : Nat)]) ∧ w = w' := by
  rcases own_row ho with ⟨rfl, rfl⟩ | ⟨p, q, rfl, hq, hc⟩
  · clear ho a
    go_enter Try.func39, Try.ntmps39
    go_wp2
    go_loop [6, 7, 14] (fun u v i => u = .int .i64 0 ∧ v = .int .i64 n ∧ i = .int .i64 0) (fun _ _ _ => 0)
    case atStart => exact ⟨rfl, rfl, rfl⟩
    case round =>
      obtain ⟨rfl, rfl, rfl⟩ := hrel
      go_wp2
      go_ret2
      exact ⟨rfl, rfl⟩
  · have HC := Lib.hid hc
    have HJ := Lib.hid hjs
    have HA := Lib.hid a
    clear ho a hc hjs
    obtain ⟨r, hr⟩ : ∃ r, r = runOf T tag n js 0 := ⟨_, rfl⟩
    rw [← hr]
    replace hr := Lib.hid hr
    go_enter Try.func39, Try.ntmps39
    go_wp2
    go_loop [6, 7, 14] (fun u v i => ∃ k f : Nat, k ≤ js.length ∧ u = .int .i64 f ∧ v = .int .i64 n ∧ i = .int .i64 k ∧ Hid (r = runOf T tag n (js.drop k) f)) (fun _ _ i => js.length - (intOf i).toNat)
    case atStart => exact ⟨0, 0, by omega, rfl, rfl, rfl, hr⟩
    case round =>
      obtain ⟨k, f, hk, rfl, rfl, rfl, hrr⟩ := hrel
      by_cases hlt : k < js.length
      · have c1 := HC.out k hlt
        have hd := Lib.hid (drop_cons hlt)
        have hn := HJ.out k hlt
        generalize js.getD k 0 = d at c1 hd hn
        obtain ⟨a0, a1, a2⟩ := HA.out.at d hn
        generalize hT : T d = td at a0
        replace hT := Lib.hid hT
        clear a1 a2
        by_cases ht : tag < td
        · have e : Hid (r = (f, d)) := Lib.hid (by rw [hrr.out, hd.out]; unfold runOf; rw [if_pos (by rw [hT.out]; exact ht)])
          have e1 := Lib.hid (congrArg Prod.fst e.out)
          have e2 := Lib.hid (congrArg Prod.snd e.out)
          clear e
          go_wp2
          go_ret2
          exact ⟨by rw [e1.out, e2.out]; rfl, rfl⟩
        · have e : Hid (r = runOf T tag n (js.drop (k + 1)) d) := Lib.hid (by rw [hrr.out, hd.out]; conv => lhs; unfold runOf; rw [if_neg (by rw [hT.out]; exact ht)])
          go_wp2
          go_round
          case rel => exact ⟨k + 1, d, by omega, rfl, rfl, by go_num, e⟩
          case measure => simp [intOf]; omega
      · obtain rfl : k = js.length := by omega
        have e : Hid (r = (f, n)) := Lib.hid (by rw [hrr.out, List.drop_length]; rfl)
        have e1 := Lib.hid (congrArg Prod.fst e.out)
        have e2 := Lib.hid (congrArg Prod.snd e.out)
        clear e hrr
        go_wp2
        go_ret2
        exact ⟨by rw [e1.out, e2.out]; rfl, rfl⟩
theorem ivs {n : Nat} {T L H : Nat → Int} (ok : Ok n T L H) (x tag : Int) (x0 : 0 ≤ x) (x1 : x ≤ 500000) (g0 : 0 ≤ tag) (g1 : tag ≤ 200000) (k : Nat) (hk : k < n) (w : World) :
    Calls Try.prog 40 #[.agg #[.int .i64 (T k), .int .i64 (L k), .int .i64 (H k)], .int .i64 x, .int .i64 tag] w fun e w' => e = .returned (.tuple #[.int .i64 (ivL x (T k) (L k) tag), .int .i64 (ivH x (T k) (H k) tag)]) ∧ Below w.heap.size w w' :=
  interval_any x (T k) (L k) (H k) tag w x0 x1 (ok.t0 k hk) (ok.t1 k hk) g0 g1 (ok.l0 k hk) (ok.lh k hk) (by have := ok.h1 k hk; omega)
theorem iv_all {n : Nat} {T L H : Nat → Int} (ok : Ok n T L H) (x tag : Int) (x0 : 0 ≤ x) (x1 : x ≤ 500000) (g0 : 0 ≤ tag) (g1 : tag ≤ 200000) (k : Nat) (hk : k < n) : 0 ≤ ivL x (T k) (L k) tag ∧ ivL x (T k) (L k) tag ≤ 1200000000000 ∧ 0 ≤ ivH x (T k) (H k) tag ∧ ivH x (T k) (H k) tag ≤ 1200000000000 := by
  have := ivL_bd x (T k) (L k) tag x0 x1 (ok.t0 k hk) (ok.t1 k hk) g0 g1
  have := ivH_bd x (T k) (H k) tag x0 x1 (ok.t0 k hk) (ok.t1 k hk) g0 g1
  have := ok.l0 k hk; have := ok.lh k hk; have := ok.h1 k hk
  omega
theorem box_at {w : World} {b : Nat} {t l h : Int} {ty : TypeId} (e : w.heap[b]? = some (.cells #[.int .i64 t, .int .i64 l, .int .i64 h] ty (0, 0))) {w' : World} (hb : Below w.heap.size w w') : w'.heap[b]? = some (.cells #[.int .i64 t, .int .i64 l, .int .i64 h] ty (0, 0)) :=
  (hb.block b (Array.getElem?_eq_some_iff.1 e).1).trans e
set_option maxHeartbeats 2000000 in
set_option maxRecDepth 100000 in
theorem bounds_two {n : Nat} {T L H : Nat → Int} {v : Value} (ok : Ok n T L H) (x tag : Int) (x0 : 0 ≤ x) (x1 : x ≤ 500000) (g0 : 0 ≤ tag) (g1 : tag ≤ 200000) (g c : Nat) (w : World) (hc : n ≤ c) (a : As w g n T L H)
    (f t : Nat) (ft : f < t) (tn : t < n) (ht : T (t - 1) ≤ tag)
    (hr : Calls Try.prog 39 #[.slice (some ⟨g, 0, none⟩) n c, v, .int .i64 tag] w fun e w' => e = .returned (.tuple #[.int .i64 (f : Int), .int .i64 (t : Int)]) ∧ w = w') :
    Calls Try.prog 29 #[.slice (some ⟨g, 0, none⟩) n c, v, .int .i64 x, .int .i64 tag] w fun e w' => e = .returned (.tuple #[.int .i64 (bdL x T L tag n f t), .int .i64 (bdH x T H tag n f t)]) ∧ Below w.heap.size w w' := by
  have n5 := ok.n5
  have hb1 : Hid (bdL x T L tag n f t = max (min (ivL x (T (t - 1)) (L (t - 1)) tag) (ivL x (T t) (L t) tag)) 0) := Lib.hid (by unfold bdL; rw [if_pos ⟨tn, ht⟩])
  have hb2 : Hid (bdH x T H tag n f t = min (max (ivH x (T (t - 1)) (H (t - 1)) tag) (ivH x (T t) (H t) tag)) 9007199254740992) := Lib.hid (by unfold bdH; rw [if_pos ⟨tn, ht⟩])
  rw [hb1.out, hb2.out]
  clear hb1 hb2
  obtain ⟨s, rfl⟩ : ∃ s, t = s + 1 := ⟨t - 1, by omega⟩
  simp only [Nat.add_sub_cancel] at ht ⊢
  have I1 := Lib.hid fun w => ivs ok x tag x0 x1 g0 g1 s (by omega) w
  have I2 := Lib.hid fun w => ivs ok x tag x0 x1 g0 g1 (s + 1) tn w
  have A2 := Lib.hid (a (s + 1) tn)
  obtain ⟨a0, a1, a2⟩ := a.at s (by omega)
  have R := Lib.hid hr
  have Bx := Lib.hid (heap_alloc_new w (.cells #[.int .i64 (T s), .int .i64 (L s), .int .i64 (H s)] 56))
  have A2' := Lib.hid (A2.out.below (new_block (.cells #[.int .i64 (T s), .int .i64 (L s), .int .i64 (H s)] 56)))
  have W1 : Hid (Below w.heap.size w (w.alloc (.cells #[.int .i64 (T s), .int .i64 (L s), .int .i64 (H s)] 56))) := Lib.hid (new_block _)
  have hd : decide (T s ≤ tag) = true := by simpa using ht
  have tn' : decide ((s : Int) + 1 < (n : Int)) = true := by simp; omega
  clear ok a hr A2 hc
  generalize ivL x (T s) (L s) tag = p at *
  generalize ivH x (T s) (H s) tag = q at *
  generalize ivL x (T (s + 1)) (L (s + 1)) tag = p' at *
  generalize ivH x (T (s + 1)) (H (s + 1)) tag = q' at *
  generalize T (s + 1) = t' at *
  generalize L (s + 1) = l' at *
  generalize H (s + 1) = h' at *
  generalize T s = ts at *
  generalize L s = ls at *
  generalize H s = hs at *
  have es : ((s + 1 : Nat) : Int) = (s : Int) + 1 := by omega
  rw [es] at R
  replace es := Lib.hid es
  go_enter Try.func29, Try.ntmps29
  go_wp2_with fail
  refine R.out.mono ?_
  rintro e w1 ⟨rfl, rfl⟩
  go_wp2_with fail
  refine (I1.out _).mono ?_
  rintro e w2 ⟨rfl, hb⟩
  have A3 := Lib.hid (A2'.out.below hb)
  obtain ⟨b0, b1, b2⟩ := A3.out
  have W2 := Lib.hid (Buf.then_ W1.out hb)
  clear hb a0 a1 a2
  go_wp2_with fail
  refine (I2.out _).mono ?_
  rintro e w3 ⟨rfl, hb⟩
  have W3 := Lib.hid (Buf.then_ W2.out hb)
  clear hb b0 b1 b2
  go_wp2
  go_ret2
  exact ⟨rfl, W3.out⟩
set_option maxHeartbeats 2000000 in
set_option maxRecDepth 100000 in
theorem bounds_run {n : Nat} {T L H : Nat → Int} {v : Value} (ok : Ok n T L H) (x tag : Int) (x0 : 0 ≤ x) (x1 : x ≤ 500000) (g0 : 0 ≤ tag) (g1 : tag ≤ 200000) (g c : Nat) (w : World) (hc : n ≤ c) (hm : c ≤ maxLen) (a : As w g n T L H)
    (f t : Nat) (ft : f < t) (tn : t ≤ n) (ht : ¬ (t < n ∧ T (t - 1) ≤ tag))
    (hr : Calls Try.prog 39 #[.slice (some ⟨g, 0, none⟩) n c, v, .int .i64 tag] w fun e w' => e = .returned (.tuple #[.int .i64 (f : Int), .int .i64 (t : Int)]) ∧ w = w') :
    Calls Try.prog 29 #[.slice (some ⟨g, 0, none⟩) n c, v, .int .i64 x, .int .i64 tag] w fun e w' => e = .returned (.tuple #[.int .i64 (bdL x T L tag n f t), .int .i64 (bdH x T H tag n f t)]) ∧ Below w.heap.size w w' := by
  have n5 := ok.n5
  have hb1 : Hid (bdL x T L tag n f t = mxL (fun k => ivL x (T k) (L k) tag) f (t - f)) := Lib.hid (by unfold bdL; rw [if_neg ht])
  have hb2 : Hid (bdH x T H tag n f t = mnH (fun k => ivH x (T k) (H k) tag) f (t - f)) := Lib.hid (by unfold bdH; rw [if_neg ht])
  rw [hb1.out, hb2.out]
  clear hb1 hb2
  have IV := Lib.hid fun k hk w => ivs ok x tag x0 x1 g0 g1 k hk w
  have R := Lib.hid hr
  have AA := Lib.hid a
  obtain ⟨a0, a1, a2⟩ := a.at (t - 1) (by omega)
  obtain ⟨s, rfl⟩ : ∃ s, t = s + 1 := ⟨t - 1, by omega⟩
  simp only [Nat.add_sub_cancel] at ht a0 a1 a2
  have es : ((s + 1 : Nat) : Int) = (s : Int) + 1 := by omega
  rw [es] at R
  have hcf : ¬ c = f := by omega
  have hfc : f < c := by omega
  have IVB := Lib.hid fun k hk => iv_all ok x tag x0 x1 g0 g1 k hk
  obtain ⟨k, hk⟩ : ∃ k, s + 1 - f = k := ⟨_, rfl⟩
  have hk' := Lib.hid hk
  have hkk : ((s : Int) + 1 - (f : Int)) = (k : Int) := by omega
  have hkt : s + 1 - f = k := hk
  have W0 : Hid (Below w.heap.size w (w.alloc (.cells #[.int .i64 (T s), .int .i64 (L s), .int .i64 (H s)] 56))) := Lib.hid (new_block _)
  have f5 : f ≤ 5 := by omega
  have k5 : k ≤ 5 := by omega
  have tne : ((s : Int) + 1 < (n : Int) ∧ decide ((s : Int) + 1 < (n : Int)) = true ∧ decide (T s ≤ tag) = false) ∨ decide ((s : Int) + 1 < (n : Int)) = false := by
    by_cases h1 : s + 1 < n
    · left
      refine ⟨by omega, by simp; omega, ?_⟩
      simp
      have : ¬ T s ≤ tag := fun h => ht ⟨h1, h⟩
      omega
    · right; simp; omega
  rw [hkt]
  have hk0 : 0 < k := by omega
  have hfk : Hid (∀ i, i < k → f + i < n) := Lib.hid fun i hi => by omega
  clear hr a ok ht hk es hkt
  replace hkk := Lib.hid hkk
  rcases tne with ⟨d0, d1, d2⟩ | d1
  all_goals
    go_enter Try.func29, Try.ntmps29
    go_wp2_with fail
    refine R.out.mono ?_
    rintro e w1 ⟨rfl, rfl⟩
    go_wp2_with fail
    go_loopw [8, 9, 71] (fun u v i wr => ∃ j : Nat, j ≤ k ∧ u = .int .i64 (mxL (fun k => ivL x (T k) (L k) tag) f j) ∧ v = .int .i64 (mnH (fun k => ivH x (T k) (H k) tag) f j) ∧ i = .int .i64 j ∧ Hid (Below w.heap.size w wr)) (fun _ _ i _ => k - (intOf i).toNat)
    case atStart => exact ⟨0, by omega, rfl, rfl, rfl, W0⟩
    case round =>
      obtain ⟨j, hj, rfl, rfl, rfl, hb⟩ := hrel
      by_cases hlt : j < k
      · have hn := hfk.out j hlt
        have J := Lib.hid ((AA.out.below hb.out).at (f + j) hn)
        have I := Lib.hid (IV.out (f + j) hn)
        have e1 : Hid (mxL (fun k => ivL x (T k) (L k) tag) f (j + 1) = max (mxL (fun k => ivL x (T k) (L k) tag) f j) (ivL x (T (f + j)) (L (f + j)) tag)) := Lib.hid rfl
        have e2 : Hid (mnH (fun k => ivH x (T k) (H k) tag) f (j + 1) = min (mnH (fun k => ivH x (T k) (H k) tag) f j) (ivH x (T (f + j)) (H (f + j)) tag)) := Lib.hid rfl
        generalize mxL (fun k => ivL x (T k) (L k) tag) f j = p at *
        generalize mnH (fun k => ivH x (T k) (H k) tag) f j = q at *
        generalize ivL x (T (f + j)) (L (f + j)) tag = p' at *
        generalize ivH x (T (f + j)) (H (f + j)) tag = q' at *
        generalize T (f + j) = t' at *
        generalize L (f + j) = l' at *
        generalize H (f + j) = h' at *
        obtain ⟨b0, b1, b2⟩ := J.out
        rw [Nat.add_mul] at b0 b1 b2
        have hl1 : (j : Int) < (s : Int) + 1 - (f : Int) := by have := hkk.out; omega
        have hl2 : j < s + 1 - f := by have := hk'.out; omega
        clear hn J
        go_wp2_with fail
        refine (I.out _).mono ?_
        rintro e w2 ⟨rfl, hb2⟩
        replace hb := Lib.hid (Buf.then_ (Buf.then_ hb.out (new_block _)) hb2)
        clear hb2 I b0 b1 b2
        go_wp2_with fail
        go_roundw
        case rel => exact ⟨j + 1, by omega, by rw [e1.out], by rw [e2.out], by go_num, hb⟩
        case measure => simp [intOf]; omega
      · obtain rfl : j = k := by omega
        have hl1 : ¬ (j : Int) < (s : Int) + 1 - (f : Int) := by have := hkk.out; omega
        have hl2 : ¬ j < s + 1 - f := by have := hk'.out; omega
        go_wp2_with fail
        go_ret2
        exact ⟨rfl, hb.out⟩
theorem bounds_any {n : Nat} {T L H : Nat → Int} {v : Value} {B : Nat} (ok : Ok n T L H) (x tag : Int) (x0 : 0 ≤ x) (x1 : x ≤ 500000) (g0 : 0 ≤ tag) (g1 : tag ≤ 200000) (g c : Nat) (w : World) (hn : 0 < n) (hc : n ≤ c) (hm : c ≤ maxLen) (a : As w g n T L H) (ho : Buf.Own B w v (ji (jl x T L H n))) :
    Calls Try.prog 29 #[.slice (some ⟨g, 0, none⟩) n c, v, .int .i64 x, .int .i64 tag] w fun e w' => e = .returned (.tuple #[.int .i64 (coL x T L H tag n), .int .i64 (coH x T L H tag n)]) ∧ Below w.heap.size w w' := by
  have n5 := ok.n5
  have hl := jl_len x T L H n
  have hmem : ∀ k, k < (jl x T L H n).length → (jl x T L H n).getD k 0 < n := fun k hk => by
    have e : (jl x T L H n).getD k 0 = (jl x T L H n)[k] := by simp [List.getD_eq_getElem?_getD, List.getElem?_eq_getElem hk]
    rw [e]; exact (jl_mem x T L H n _ (List.getElem_mem hk)).2
  have R := run_any (v := v) tag g c w n5 (by omega) hmem a ho
  obtain ⟨r1, r2⟩ := runOf_bd T tag n (jl x T L H n) 0 hn (fun j hj => jl_mem x T L H n j hj) (jl_up x T L H n)
  unfold coL coH
  by_cases ht : (runOf T tag n (jl x T L H n) 0).2 < n ∧ T ((runOf T tag n (jl x T L H n) 0).2 - 1) ≤ tag
  · exact bounds_two ok x tag x0 x1 g0 g1 g c w hc a _ _ r1 ht.1 ht.2 R
  · exact bounds_run ok x tag x0 x1 g0 g1 g c w hc hm a _ _ r1 r2 ht R
theorem co_bd {n : Nat} {T L H : Nat → Int} (ok : Ok n T L H) (x tag : Int) (x0 : 0 ≤ x) (x1 : x ≤ 500000) (g0 : 0 ≤ tag) (g1 : tag ≤ 200000) (hn : 0 < n) : 0 ≤ coL x T L H tag n ∧ coL x T L H tag n ≤ 1200000000000 ∧ 0 ≤ coH x T L H tag n ∧ coH x T L H tag n ≤ 1200000000000 := by
  obtain ⟨r1, r2⟩ := runOf_bd T tag n (jl x T L H n) 0 hn (fun j hj => jl_mem x T L H n j hj) (jl_up x T L H n)
  have a := bdL_bd x T L H tag n _ _ ok x0 x1 g0 g1 r1 r2
  have b := bdH_bd x T L H tag n _ _ ok x0 x1 g0 g1 r1 r2
  exact ⟨a.1, a.2, b.1, b.2⟩
/-- What Correct answers. -/
def CorE (lo hi : Int) (e : Ending) : Prop :=
  (lo ≤ hi ∧ e = .returned (.tuple #[.int .i64 ((lo + hi) / 2), .int .i64 (hi - (lo + hi) / 2), .int .i64 0])) ∨ (hi < lo ∧ e = .returned (.tuple #[.int .i64 0, .int .i64 0, .int .i64 11]))
set_option maxHeartbeats 1000000 in
theorem correct_any {n : Nat} {T L H : Nat → Int} (ok : Ok n T L H) (x tag : Int) (x0 : 0 ≤ x) (x1 : x ≤ 500000) (g0 : 0 ≤ tag) (g1 : tag ≤ 200000) (g c : Nat) (w : World) (hn : 0 < n) (hc : n ≤ c) (hm : c ≤ maxLen) (a : As w g n T L H) :
    Calls Try.prog 14 #[.slice (some ⟨g, 0, none⟩) n c, .int .i64 x, .int .i64 tag] w fun e w' => CorE (coL x T L H tag n) (coH x T L H tag n) e ∧ Below w.heap.size w w' := by
  have J := Lib.hid (jumps_any ok x x0 x1 g c w hn a)
  have BB := Lib.hid fun v (w' : World) (a : As w' g n T L H) (ho : Buf.Own w.heap.size w' v (ji (jl x T L H n))) => bounds_any (v := v) ok x tag x0 x1 g0 g1 g c w' hn hc hm a ho
  have A := Lib.hid a
  obtain ⟨b0, b1, b2, b3⟩ := co_bd ok x tag x0 x1 g0 g1 hn
  have n5 := ok.n5
  clear ok a
  generalize coL x T L H tag n = lo at *
  generalize coH x T L H tag n = hi at *
  go_enter Try.func14, Try.ntmps14
  go_wp2_with fail
  refine J.out.mono ?_
  rintro e w1 ⟨⟨v, rfl, ho⟩, hb⟩
  have hB := Lib.hid hb
  replace A := Lib.hid (A.out.below hb)
  replace ho := Lib.hid ho
  have hn0 : ((n : Int) == 0) = false := by rw [beq_eq_false_iff_ne]; omega
  clear hb J
  by_cases hle : lo ≤ hi
  · have E : Hid (CorE lo hi (.returned (.tuple #[.int .i64 ((lo + hi) / 2), .int .i64 (hi - (lo + hi) / 2), .int .i64 0]))) := Lib.hid (.inl ⟨hle, rfl⟩)
    go_wp2_with (go_at_call 27; refine (within_yes _ _ _ _ (by omega) (by omega)).mono ?_; rintro e w2 ⟨rfl, m, rfl⟩)
    refine (BB.out v _ (A.out.below (Buf.below_drewN (Below.refl _ _) m)) (ho.out.drewN m)).mono ?_
    rintro e w3 ⟨rfl, hb⟩
    have hB2 := Lib.hid (Buf.then_ (Buf.below_drewN hB.out m) hb)
    clear hb hB
    go_wp2
    go_ret3
    exact ⟨E.out, hB2.out⟩
  · have E : Hid (CorE lo hi (.returned (.tuple #[.int .i64 0, .int .i64 0, .int .i64 11]))) := Lib.hid (.inr ⟨by omega, rfl⟩)
    go_wp2_with (go_at_call 27; refine (within_yes _ _ _ _ (by omega) (by omega)).mono ?_; rintro e w2 ⟨rfl, m, rfl⟩)
    refine (BB.out v _ (A.out.below (Buf.below_drewN (Below.refl _ _) m)) (ho.out.drewN m)).mono ?_
    rintro e w3 ⟨rfl, hb⟩
    have hB2 := Lib.hid (Buf.then_ (Buf.below_drewN hB.out m) hb)
    clear hb hB
    go_wp2
    go_ret3
    exact ⟨E.out, hB2.out⟩
theorem valid_nil (a : Option Addr) (c : Nat) (x : Int) (x0 : 0 ≤ x) (x1 : x ≤ 500000) (w : World) : Calls Try.prog 26 #[.slice a 0 c, .int .i64 x] w fun e w' => e = .returned (.bool true) ∧ Below w.heap.size w w' := by
  go_enter Try.func26, Try.ntmps26
  go_wp2_with (go_at_call 27; refine (within_yes _ _ _ _ (by omega) (by omega)).mono ?_; rintro e w' ⟨rfl, m, rfl⟩)
  go_loop [17] (fun i => i = .int .i64 0) (fun _ => 0)
  case atStart => rfl
  case round =>
    subst hrel
    go_wp2
    go_ret
    exact ⟨rfl, Buf.below_drewN (Below.refl _ _) _⟩
theorem jumps_nil (a : Option Addr) (c : Nat) (x : Int) (x0 : 0 ≤ x) (x1 : x ≤ 500000) (w : World) : Calls Try.prog 16 #[.slice a 0 c, .int .i64 x] w fun e w' => e = .returned (.tuple #[.slice none 0 0, .int .i64 0]) ∧ Below w.heap.size w w' := by
  go_enter Try.func16, Try.ntmps16
  go_wp2_with fail
  refine (valid_nil a c x x0 x1 w).mono ?_
  rintro e w1 ⟨rfl, hb⟩
  have hB := Lib.hid hb
  clear hb
  go_wp2
  go_loop [6, 7] (fun v i => v = .slice none 0 0 ∧ i = .int .i64 1) (fun _ _ => 0)
  case atStart => exact ⟨rfl, rfl⟩
  case round =>
    obtain ⟨rfl, rfl⟩ := hrel
    go_wp2
    go_ret2
    exact ⟨rfl, hB.out⟩
theorem correct_nil (a : Option Addr) (c : Nat) (x tag : Int) (x0 : 0 ≤ x) (x1 : x ≤ 500000) (g0 : 0 ≤ tag) (g1 : tag ≤ 200000) (w : World) :
    Calls Try.prog 14 #[.slice a 0 c, .int .i64 x, .int .i64 tag] w fun e w' => e = .returned (.tuple #[.int .i64 0, .int .i64 0, .int .i64 6]) ∧ Below w.heap.size w w' := by
  go_enter Try.func14, Try.ntmps14
  go_wp2_with fail
  refine (jumps_nil a c x x0 x1 w).mono ?_
  rintro e w1 ⟨rfl, hb⟩
  have hB := Lib.hid hb
  clear hb
  go_wp2_with (go_at_call 27; refine (within_yes _ _ _ _ (by omega) (by omega)).mono ?_; rintro e w2 ⟨rfl, m, rfl⟩)
  go_ret3
  exact ⟨rfl, Buf.below_drewN hB.out _⟩
end Clock
end Go.Proofs.Ytdcjpjdkamlheaa
