/- dataWords, Words, framesOf, Frames. -/
import Derived.Test.YtfebacopbacopaaDoorStmE
import Derived.Test.YtfebacopbacopaaDoorRowK
set_option linter.unusedVariables false
set_option linter.unusedSimpArgs false
namespace Go.Proofs.YtfebacopbacopaaDoor
open Go.RowKit Dice Ri Rk
namespace St
theorem Ro.drop {w : World} {a : Option Addr} {n c : Nat} {L : List Int} (h : Ro w a n c L) (k : Nat) (hk : k ≤ n) (a' : Option Addr) (ha : ∀ g o, a = some ⟨g, o, none⟩ → k < n → a' = some ⟨g, o + k, none⟩) : Ro w a' (n - k) (c - k) (L.drop k) :=
  ⟨by rw [List.length_drop, ← h.len], by have := h.nc; omega, by have := h.cap; omega, fun h0 => by
    obtain ⟨g, o, e, hg, hc⟩ := h.at_ (by omega)
    refine ⟨g, o + k, ha g o e (by omega), hg, fun j x hx => ?_⟩
    rw [List.getElem?_drop] at hx
    have := hc (k + j) x hx
    rwa [Nat.add_assoc]⟩
theorem Ro.kept {w w' : World} {a : Option Addr} {n c : Nat} {L : List Int} (h : Ro w a n c L) (hb : ∀ g o, a = some ⟨g, o, none⟩ → 0 < n → w'.heap[g]? = w.heap[g]?) (hs : w.heap.size ≤ w'.heap.size) : Ro w' a n c L :=
  ⟨h.len, h.nc, h.cap, fun h0 => by
    obtain ⟨g, o, e, hg, hc⟩ := h.at_ h0
    exact ⟨g, o, e, Nat.lt_of_lt_of_le hg hs, fun j x hx => (World.cell?_of_block (a := ⟨g, o + j, none⟩) (hb g o e h0)).trans (hc j x hx)⟩⟩
theorem add_some (g o q : Nat) (hq : 1 ≤ q) : Option.map (fun x => Addr.add x q) (some ⟨g, o, none⟩) = some ⟨g, o + q, none⟩ := by
  have : q ≠ 0 := by omega
  simp [Addr.add, this]
def Wds (w : World) (B : Nat) (v : Value) (l : List (Nat × Int)) : Prop := w.ownsRow B 89 2 v l.length (cellsW l)
theorem In.drop {l : List Int} {p : Int} (h : ∀ n ∈ l, In p n) (k : Nat) : ∀ n ∈ l.drop k, In p n := fun n hn => h n (List.mem_of_mem_drop hn)
set_option maxHeartbeats 8000000 in
set_option maxRecDepth 100000 in
theorem dataWords_any {w : World} {a : Option Addr} {n c : Nat} {L : List Int} (h : Ro w a n c L) (h9 : n ≤ 100000) (hL : InS L) :
    Calls Tryd.prog 44 #[.slice a n c] w fun e w' => (∃ v, e = .returned v ∧ Wds w' w.heap.size v (wds (df L))) ∧ Below w.heap.size w w' := by
  have DF := Lib.hid (differences_any h h9 hL)
  have hDI := Lib.hid (df_in L hL)
  have hLn := Lib.hid h.len
  obtain ⟨i0, hi, hz0, hz1, hz2⟩ : ∃ i, Tryd.prog.info? 89 = some i ∧ i.zero = some (.agg #[.int .i64 0, .int .i64 0]) ∧ i.size = 2 ∧ i.bytes = 16 := ⟨_, rfl, by kernel_rfl, by kernel_rfl, by kernel_rfl⟩
  clear h hL
  obtain ⟨D, hD⟩ : ∃ D, D = df L := ⟨_, rfl⟩
  rw [← hD] at DF hDI ⊢
  have hDl : Hid (D.length ≤ 100000) := Lib.hid (by rw [hD, df_length, ← hLn.out]; exact h9)
  replace hD := Lib.hid hD
  go_enter Tryd.func44, Tryd.ntmps44
  go_wp2_with fail
  with_reducible refine DF.out.mono ?_
  rintro e w1 ⟨⟨b0, c0, rfl, R0⟩, hb0⟩
  replace R0 := Lib.hid R0
  replace hb0 := Lib.hid hb0
  clear DF
  go_wp2_with fail
  go_loopw [3, 4] (fun s3 s4 wr => ∃ (b : Option Addr) (m c : Nat) (M : List Int) (l : List (Nat × Int)), s3 = .slice b m c ∧ m ≤ n ∧ Hid (∀ g o, b = some ⟨g, o, none⟩ → 0 < m → g < w1.heap.size) ∧ Hid (Ro wr b m c M) ∧ Hid (Wds wr w1.heap.size s4 l) ∧ Hid (l ++ wds M = wds D) ∧ Hid (∀ x ∈ M, In 2147483648 x) ∧ Hid (Below w1.heap.size w1 wr)) (fun s3 _ _ => match s3 with | .slice _ k _ => k | _ => 0)
  case atStart => exact ⟨b0, n, c0, D, [], rfl, Nat.le_refl _, Lib.hid (fun g o e h0 => by obtain ⟨g', o', e', hg, _⟩ := R0.out.at_ h0; rw [e'] at e; have := Option.some.inj e; injection this with e1 e2; omega), R0, Lib.hid (World.ownsRow_nil _ _ _ _), Lib.hid rfl, hDI, Lib.hid (Below.refl _ _)⟩
  case round =>
    clear R0 hDI
    obtain ⟨b, m, c, M, l, rfl, hmn, HG, R, O, HW, HI, HB⟩ := hrel
    have hnc := R.out.nc
    have hcc := R.out.cap
    have hRl := Lib.hid R.out.len
    by_cases hm : 0 < m
    · have hm' : (0 : Int) < m := by omega
      have hne : M ≠ [] := fun e => by have := hRl.out; rw [e] at this; simp at this; omega
      have NC := Lib.hid (nextCode_any R.out)
      have hcd := cd_rng M
      have hq := cnt_rng M
      have hql : cnt (cd M) ≤ m := by have := cd_len M hne; rw [hRl.out]; exact this
      have hfit := cd_fits M hne HI.out
      have hstep := wds_step M hne
      have hw1 : St.w1 M = (cd M, pk (wid (cd M)) (M.take (cnt (cd M)))) := rfl
      have hwk : wid (cd M) = 8 ∨ wid (cd M) = 16 ∨ wid (cd M) = 32 := by rcases cd_cases M with h | h | h <;> rw [h] <;> simp [wid]
      have hkq : wid (cd M) * cnt (cd M) ≤ 32 := by rcases cd_cases M with h | h | h <;> rw [h] <;> decide
      have LY := Lib.hid fun w' => layout_any (cd M) hcd.2 w'
      rw [hw1] at hstep
      generalize hz : cd M = z at *
      generalize hqq : cnt z = q at *
      generalize hkk : wid z = k at *
      have PA := Lib.hid fun w' (hb : Below wr.heap.size wr w') => pack_any ((R.out.below hb).take q hql) k hwk hkq hfit
      generalize hval : pk k (M.take q) = val at *
      have lle : Hid (l.length ≤ 100000) := Lib.hid (by
        have h1 := congrArg List.length HW.out
        rw [List.length_append] at h1
        have h2 := (wds_len D).1
        have := hDl.out
        omega)
      replace hstep := Lib.hid hstep
      clear hne hfit hz hqq hkk hval hw1 hwk hkq hcd
      go_wp2_with fail
      with_reducible refine NC.out.mono ?_
      rintro e w2 ⟨rfl, hb⟩
      replace PA := Lib.hid (PA.out _ hb)
      replace HB := Lib.hid (Buf.then_ HB.out hb)
      replace R := Lib.hid (R.out.below hb)
      replace O := Lib.hid (own_below O.out hb)
      clear hb NC
      go_wp2_with fail
      with_reducible refine (LY.out _).mono ?_
      rintro e w3 ⟨rfl, hw⟩
      replace hw := hw.symm
      subst hw
      have qm : (q : Int) ≤ m := by omega
      have qc : (q : Int) ≤ c := by omega
      go_wp2_with fail
      with_reducible refine PA.out.mono ?_
      rintro e w4 ⟨rfl, hb⟩
      replace HB := Lib.hid (Buf.then_ HB.out hb)
      replace R := Lib.hid (R.out.below hb)
      replace O := Lib.hid (own_below O.out hb)
      clear hb PA LY
      have one : Hid (∀ u ∈ [Value.int .i64 (z : Nat), .int .i64 val], u.oneCell' = true) := Lib.hid (by simp; exact ⟨rfl, rfl⟩)
      have hb3 := Lib.hid (heap_alloc_new w4 (.cells #[.int .i64 (z : Nat), .int .i64 val] 89))
      have hown := Lib.hid (own_below O.out (new_block (.cells #[.int .i64 (z : Nat), .int .i64 val] 89)))
      have hR := Lib.hid (R.out.below (new_block (.cells #[.int .i64 (z : Nat), .int .i64 val] 89)))
      have hBB := Lib.hid (Buf.then_ HB.out (new_block (.cells #[.int .i64 (z : Nat), .int .i64 val] 89)))
      have hle : w1.heap.size ≤ w4.heap.size := HB.out.size
      go_wp2_with (at_builtin; refine wpList_append_lies _ rfl (.tmp 20) (.tmp 28) 85 rfl w1.heap.size 89 i0 (.agg #[.int .i64 0, .int .i64 0]) 2 16 Tryd.underlying85 hi hz0 hz1 hz2 rfl (by decide) _ l.length (cellsW l) rfl hown.out ⟨w4.heap.size, 0, none⟩ 1 1 [.int .i64 (z : Nat), .int .i64 val] rfl rfl (World.news_of_block hb3.out) one.out (by decide) (by unfold maxLen; have := lle.out; omega) (by have := lle.out; omega) (by simp; omega) _ rfl ?_; intro gq cq w5 O2 G2 hg2 hl2)
      have O5 : Hid (Wds w5 w1.heap.size (.slice (some ⟨gq, 0, none⟩) (l.length + 1) cq) (l ++ [(z, val)])) := Lib.hid (by unfold Wds; rw [cellsW_snoc]; simpa using O2)
      have hot : ∀ k, k < w1.heap.size → some k ≠ (u4).ownBlock := fun k hk e => by have := (hown.out.lt k e.symm).1; omega
      have R5 := hR.out.kept (w' := w5) (fun g o e h0 => G2.block g (by have := HG.out g o e h0; simp; omega) (hot g (HG.out g o e h0))) G2.size
      have RD := Lib.hid (R5.drop q hql (if c = q then b else Option.map (fun x => x.add q) b) (fun g o e hq => by rw [if_neg (by omega), e]; exact add_some g o q (by omega)))
      have B5 : Hid (Below w1.heap.size w1 w5) := Lib.hid (hBB.out.trans ⟨G2.os, G2.tape, G2.output, G2.size, fun k hk => G2.block k (by simp; omega) (hot k hk)⟩)
      refine ⟨⟨_, m - q, c - q, M.drop q, l ++ [(z, val)], rfl, by omega, Lib.hid (fun g o e h0 => ?_), RD, O5, Lib.hid (by rw [← HW.out, hstep.out]; simp), Lib.hid (In.drop HI.out q), B5⟩, by show m - q < m; omega⟩
      obtain ⟨g', o', e', hg', _⟩ := R.out.at_ (by omega)
      have hlt := HG.out g' o' e' (by omega)
      split at e
      · rw [e'] at e
        have := Option.some.inj e; injection this with e1 e2; omega
      · rw [e'] at e
        rw [add_some _ _ _ (by omega)] at e
        have := Option.some.inj e; injection this with e1 e2; omega
    · obtain rfl : m = 0 := by omega
      have hM : M = [] := List.eq_nil_of_length_eq_zero (by rw [← hRl.out])
      have hlw : l = wds D := by have := HW.out; rw [hM, wds_nil, List.append_nil] at this; exact this
      rw [hlw] at O
      replace hlw := Lib.hid hlw
      clear hM HW
      go_wp2_with fail
      go_ret
      exact ⟨⟨_, rfl, own_mono O.out hb0.out.size⟩, Buf.then_ hb0.out HB.out⟩
end St
end Go.Proofs.YtfebacopbacopaaDoor
