/- The walk of SteimSizes. -/
import Derived.Test.YthdahfaejpjkhaaStmP
set_option linter.unusedVariables false
set_option linter.unusedSimpArgs false
namespace Go.Proofs.Ythdahfaejpjkhaa
open Go.RowKit Dice Ri Rk
namespace St
theorem RI.left {W w w' : World} {g : Nat} {a : Option Addr} {len cap : Nat} {zs : List Int} {B : Nat} {v : Value} {L : List Int} (h : RI w B v L) (hd : Di W w g a len cap zs) (l : Dice.Left W w w' g a len cap zs) : RI w' B v L :=
  own_left h hd (by decide) l
/-- Two rows that own different blocks. -/
def Two (u v : Value) : Prop := ∀ k, u.ownBlock = some k → v.ownBlock ≠ some k
/-- Appending one number to a row, another row staying. -/
structure App (B : Nat) (w w' : World) (u u' v : Value) (L M : List Int) (x : Int) : Prop where
  own : RI w' B u' (L ++ [x])
  oth : RI w' B v M
  two : Two u' v
  two' : Two v u'
  bel : Below B w w'
theorem wp_app {ops : Array Oper} {rest : List Oper} {o : Oper} {a : Act} {Q : Exit → Act → World → Prop} {w : World} (hgd : o.guard = none) (s x : Operand)
    (ho : o.op = .call { callee := .builtin .append, args := #[s, x], argTypes := #[22, 22] }) (B : Nat) (u v : Value) (L M : List Int) (n : Int) (hs : a.eval s = u) (hu : RI w B u L) (hv : RI w B v M) (h2 : Two u v) (h2' : Two v u)
    (hx : a.eval x = .slice (some ⟨w.heap.size, 0, none⟩) 1 1) (hB : B ≤ w.heap.size) (h9 : L.length ≤ 100000)
    (h : ∀ u' w', App B w w' u u' v L M n → wpList Try.prog ops Q rest (a.put o.dst u') w') : wpList Try.prog ops Q (o :: rest) a (w.alloc (.cells #[.int .i64 n] 3)) := by
  obtain ⟨i0, hi, hz0, hz1, hz2⟩ := info_parts infoI
  have e4 : (w.alloc (.cells #[.int .i64 n] 3)).heap.size = w.heap.size + 1 := Array.size_push ..
  have hu' := own_below hu (new_block (.cells #[.int .i64 n] 3))
  have hv' := own_below hv (new_block (.cells #[.int .i64 n] 3))
  refine wpList_append_lies _ hgd s x 22 ho B 3 i0 (.int .i64 0) 1 8 Try.underlying22 hi hz0 hz1 hz2 rfl (by decide) u L.length (iv L) hs hu' ⟨w.heap.size, 0, none⟩ 1 1 [.int .i64 n] hx rfl (World.news_of_block (heap_alloc_new w (.cells #[.int .i64 n] 3))) (by simp; rfl) (by decide) (by unfold maxLen; omega) (by omega) (by omega) _ rfl ?_
  intro gq cq w' O2 G2 hg2 hl2
  refine h _ _ ⟨?_, own_kept hv' (fun k hk => G2.block k ((hv'.lt k hk).2) (fun e => h2 k e.symm hk)), fun k hk => ?_, fun k hk hk2 => ?_, ?_⟩
  · unfold RI
    have e1 : iv (L ++ [n]) = iv L ++ [.int .i64 n] := by simp [iv]
    rw [e1, List.length_append]
    exact O2
  · have e3 : gq = k := Option.some.inj hk
    rcases hg2 with e | e
    · exact h2 k (by rw [← e3]; exact e)
    · intro h3
      have := (hv.lt k h3).2
      omega
  · have e3 : gq = k := Option.some.inj hk2
    rcases hg2 with e | e
    · exact h2' k hk (by rw [← e3]; exact e)
    · have := (hv.lt k hk).2
      omega
  · refine ((Below.refl _ _).alloc hB _).trans ⟨G2.os, G2.tape, G2.output, G2.size, fun k hk => G2.block k (by omega) (fun e => by have := (hu.lt k e.symm).1; omega)⟩
theorem step_in {v x p : Int} (hv : -40000 * p ≤ v ∧ v ≤ 40000 * p) (hx : -40000 ≤ x ∧ x ≤ 40000) : -40000 * (p + 1) ≤ v + x ∧ v + x ≤ 40000 * (p + 1) := by omega
end St
namespace Laws
open St
set_option maxHeartbeats 8000000 in
set_option maxRecDepth 100000 in
theorem steimSizes_walk (a0 : Option Addr) (len0 cap0 : Nat) (z0 : List Int) (a1 : Int) (w : World) (w0 : Buf.IsRow .i64 w a0 len0 cap0 z0) (wf1 : (Lit.int .u16 a1).wf = true) :
    Calls Try.prog 4 #[.slice a0 len0 cap0, .int .u16 a1] w fun e w' => e = .returned (.bool true) ∧ Below w.heap.size w w' := by
  have Sn := Lib.hid St.sane_any
  obtain ⟨b0, b1⟩ : 0 ≤ a1 ∧ a1 ≤ 65535 := Ma.wf_u16 wf1
  clear wf1
  by_cases hs : len0 ≤ 500
  · have hd : decide ((len0 : Int) ≤ 500) = true := by simp; omega
    obtain ⟨i0, hi, hz0, hz1, hz2⟩ := info_parts infoI
    go_enter Try.func4, Try.ntmps4
    go_wp2_with (first | (go_at_call 7; refine (light_any _ _ _ _).mono ?_; rintro e w1 ⟨rfl, hw⟩; replace hw := hw.symm; subst hw; rw [hd]) | (go_at_call 9; refine (roll_any a0 len0 cap0 z0 _ w0 hs).mono ?_; rintro e w2 ⟨rfl, hdi⟩))
    refine (next_any 90 hdi (by omega) (by omega)).mono ?_
    rintro e w3 ⟨⟨t, rfl, t0, t1⟩, hl⟩
    have HD := Lib.hid hdi
    have L0 := Lib.hid hl
    have hgd : Hid (w.heap.size < w2.heap.size) := Lib.hid hdi.lt
    have hsz3 : Hid (w2.heap.size ≤ w3.heap.size) := Lib.hid hl.far.size
    obtain ⟨B, hB⟩ : ∃ B, B = w2.heap.size := ⟨_, rfl⟩
    rw [← hB] at hgd hsz3
    replace hB := Lib.hid hB
    obtain ⟨k, rfl⟩ := Int.eq_ofNat_of_zero_le t0
    clear hl hdi
    go_wp2_with fail
    go_loopw [6, 7, 8, 9] (fun s6 s7 s8 s9 wr => ∃ (X : List Int) (v : Int) (i : Nat), s8 = .int .i64 v ∧ s9 = .int .i64 (i : Int) ∧ X.length + i ≤ 90 ∧ (1 ≤ X.length ∨ 1 ≤ i) ∧ -40000 * (X.length : Int) ≤ v ∧ v ≤ 40000 * (X.length : Int) ∧ Hid (∀ x ∈ X, -3600000 ≤ x ∧ x ≤ 3600000) ∧ Hid (RI wr B s6 X) ∧ Hid (RI wr B s7 (X.map (· + a1))) ∧ Hid (Two s6 s7) ∧ Hid (Two s7 s6) ∧ Hid (Dice.Left w w2 wr w.heap.size a0 len0 cap0 z0)) (fun _ _ _ s9 _ => (intOf s9).toNat)
    case atStart => exact ⟨[], 0, 1 + k, rfl, by go_num, by simp; omega, .inr (by omega), by simp, by simp, Lib.hid (fun x hx => by cases hx), Lib.hid (World.ownsRow_nil _ _ _ _), Lib.hid (World.ownsRow_nil _ _ _ _), Lib.hid (fun k h => by cases h), Lib.hid (fun k h => by cases h), L0⟩
    case round =>
      clear L0 hsz3
      obtain ⟨X, v, i, rfl, rfl, hXi, h1, v0, v1, HX, OX, OY, TW, TV, L⟩ := hrel
      by_cases hi0 : 0 < i
      · have ii : (0 : Int) < i := by omega
        have I3 := Lib.hid (ints_alloc wr [0, 1, -3, 127, 128, -128, -129, 40000, -40000] 3)
        have dl := L.out.di.lt
        go_wp2_with fail
        refine (pick_any wr.heap.size [0, 1, -3, 127, 128, -128, -129, 40000, -40000] 9 9 (L.out.di.below (new_block _)) (by simpa using I3.out) rfl (by omega) (by omega) (by omega) (by simp)).mono ?_
        rintro e w4 ⟨⟨x, rfl, hx⟩, hl⟩
        have x0 : -40000 ≤ x ∧ x ≤ 40000 := by simp at hx; omega
        replace OX := Lib.hid (RI.left (own_below OX.out (new_block _)) (L.out.di.below (new_block _)) hl)
        replace OY := Lib.hid (RI.left (own_below OY.out (new_block _)) (L.out.di.below (new_block _)) hl)
        replace L := Lib.hid ((L.out.below (new_block _)).trans hl)
        clear hl I3 hx dl
        have y0 := step_in ⟨v0, v1⟩ x0
        have hB4 : Hid (B ≤ w4.heap.size) := Lib.hid (by rw [hB.out]; exact L.out.far.size)
        have ylo : -3600000 ≤ v + x := by omega
        have yhi : v + x ≤ 3600000 := by omega
        have x00 := x0.1
        have x01 := x0.2
        have vlo : -3600000 ≤ v := by omega
        have vhi : v ≤ 3600000 := by omega
        have ml : (X.map (· + a1)).length = X.length := List.length_map ..
        clear x0
        go_wp2_with (first | (at_builtin; refine wp_app rfl (.tmp 35) (.tmp 37) rfl B _ _ X (X.map (· + a1)) (v + x) rfl OX.out OY.out TW.out TV.out rfl hB4.out (by omega) ?_; intro u8 w5 AP; have A1 := Lib.hid AP; have hB5 := Lib.hid (Nat.le_trans hB4.out AP.bel.size); clear AP) | (at_builtin; refine wp_app rfl (.tmp 39) (.tmp 44) rfl B _ _ (X.map (· + a1)) (X ++ [v + x]) (v + x + a1) rfl A1.out.oth A1.out.own A1.out.two' A1.out.two rfl hB5.out (by omega) ?_; intro u9 w6 AP2; have A2 := Lib.hid AP2; clear AP2))
        have L6 := Lib.hid (Dice.Left.past HD.out L.out (by rw [← hB.out]; exact A1.out.bel.trans A2.out.bel))
        have e1 : (X ++ [v + x]).map (· + a1) = X.map (· + a1) ++ [v + x + a1] := by simp
        have ln : ((X ++ [v + x]).length : Int) = (X.length : Int) + 1 := by simp
        obtain ⟨j, rfl⟩ : ∃ j, i = j + 1 := ⟨i - 1, by omega⟩
        exact ⟨⟨X ++ [v + x], v + x, j, rfl, by go_num, by rw [List.length_append, List.length_singleton]; omega, .inl (by simp), by rw [ln]; exact y0.1, by rw [ln]; exact y0.2, Lib.hid (fun z hz => by
          rcases List.mem_append.1 hz with h | h
          · exact HX.out z h
          · rw [List.mem_singleton] at h; rw [h]; exact ⟨ylo, yhi⟩), Lib.hid A2.out.oth, Lib.hid (by rw [e1]; exact A2.out.own), Lib.hid A2.out.two', Lib.hid A2.out.two, L6⟩, by simp [intOf]⟩
      · obtain rfl : i = 0 := by omega
        have e0 : ((0 : Nat) : Int) = 0 := rfl
        rw [e0]
        obtain ⟨ax, nx, cx, rfl, hnx, RX⟩ := RI.ro OX.out
        obtain ⟨ay, ny, cy, rfl, hny, RY⟩ := RI.ro OY.out
        have ml : (X.map (· + a1)).length = X.length := List.length_map ..
        obtain rfl : nx = ny := by omega
        have n1 : 1 ≤ nx := by omega
        have n9 : nx ≤ 90 := by omega
        have SX : InS X := fun z hz => by have := HX.out z hz; omega
        have SY : InS (X.map (· + a1)) := fun z hz => by
          obtain ⟨u, hu, rfl⟩ := List.mem_map.1 hz
          have := HX.out u hu; omega
        have hdf : df (X.map (· + a1)) = df X := df_map a1 X
        have hkl := wds_len (df X)
        rw [df_length, ← hnx] at hkl
        have hf : fo (wds (df X)).length ≤ 8 := by unfold fo; omega
        have WX := Lib.hid fun w' (b : Below wr.heap.size wr w') => words_any (RX.below b) (by omega) SX
        have WY := Lib.hid fun w' (b : Below wr.heap.size wr w') => words_any (RY.below b) (by omega) SY
        have FX := Lib.hid fun w' (b : Below wr.heap.size wr w') => frames_any (RX.below b) (by omega) SX n1
        have EX := Lib.hid fun w' (b : Below wr.heap.size wr w') => encode_any (RX.below b) n1 (by omega) SX hf
        have EY := Lib.hid fun w' (b : Below wr.heap.size wr w') => encode_any (RY.below b) n1 (by omega) SY (by rw [hdf]; exact hf)
        rw [hdf] at WY
        have lx : (enc X).length = 64 * fo (wds (df X)).length := enc_len X
        have ly : (enc (X.map (· + a1))).length = 64 * fo (wds (df X)).length := by rw [enc_len, hdf]
        have hby : Hid (∀ i, (i < 4 ∨ 12 ≤ i) → (enc X)[i]? = (enc (X.map (· + a1)))[i]?) := Lib.hid fun i hi => by
          unfold enc ew
          rw [hdf]
          exact enc_bytes _ (by unfold fo; omega) _ _ _ _ _ i hi
        generalize enc X = p at *
        generalize enc (X.map (· + a1)) = q at *
        generalize (wds (df X)).length = k2 at *
        have BW0 := Lib.hid L.out.di.bel
        have BW := Lib.hid (Below.refl wr.heap.size wr)
        obtain ⟨F, hF⟩ : ∃ F, F = fo k2 := ⟨_, rfl⟩
        rw [← hF] at lx ly FX hf
        have hFk : k2 + 2 ≤ 15 * F ∧ 15 * F ≤ k2 + 16 := by rw [hF]; unfold fo; omega
        replace hF := Lib.hid hF
        clear RX RY SX SY hdf OX OY TW TV L HX h1 v0 v1 hnx hny ml
        go_wp2_with fail
        with_reducible refine (WX.out _ BW.out).mono ?_
        rintro e w4 ⟨rfl, hb⟩
        replace BW := Lib.hid (Buf.then_ BW.out hb)
        clear hb
        go_wp2_with fail
        with_reducible refine (EX.out _ BW.out).mono ?_
        rintro e w5 ⟨rfl, hb⟩
        replace BW := Lib.hid (Buf.then_ BW.out hb)
        clear hb
        go_wp2_with fail
        with_reducible refine (EY.out _ BW.out).mono ?_
        rintro e w6 ⟨rfl, hb⟩
        replace BW := Lib.hid (Buf.then_ BW.out hb)
        clear hb EX EY WX
        have sp : (ByteArray.mk ⟨p⟩).size = p.length := rfl
        have sq : (ByteArray.mk ⟨q⟩).size = q.length := rfl
        have g1 : ¬ (4 * (k2 : Int) < (nx : Int)) := by omega
        have g2 : ¬ ((nx : Int) < (k2 : Int)) := by omega
        have g3 : ((p.length : Int) != (q.length : Int)) = false := by rw [lx, ly]; simp
        have g4 : ((p.length : Int) != 64 * (F : Int)) = false := by rw [lx]; simp
        have l1 : (p.length : Int) ≤ 512 := by omega
        have f0 : (F : Int) ≤ 8 := by omega
        have k9 : (k2 : Int) ≤ 90 := by omega
        replace lx := Lib.hid lx
        replace ly := Lib.hid ly
        replace hFk := Lib.hid hFk
        go_wp2_with fail
        with_reducible refine (FX.out _ BW.out).mono ?_
        rintro e w7 ⟨rfl, hb⟩
        replace BW := Lib.hid (Buf.then_ BW.out hb)
        clear hb FX
        go_wp2_with fail
        with_reducible refine (WY.out _ BW.out).mono ?_
        rintro e w8 ⟨rfl, hb⟩
        replace BW := Lib.hid (Buf.then_ BW0.out (Buf.then_ BW.out hb))
        clear hb WY BW0
        go_wp2_with fail
        obtain ⟨N, hN⟩ : ∃ N, N = p.length := ⟨_, rfl⟩
        have hpq : Hid (q.length = N) := Lib.hid (by rw [hN, lx.out, ly.out])
        rw [← hN] at sp g3 g4 l1 ⊢
        rw [hpq.out] at sq g3 ⊢
        replace hN := Lib.hid hN
        go_loopw [15] (fun i wr => ∃ k : Nat, k ≤ N ∧ i = .int .i64 (k : Int) ∧ Hid (Below w.heap.size w wr)) (fun i _ => N - (intOf i).toNat)
        case atStart => exact ⟨0, by omega, rfl, BW⟩
        case round =>
          clear BW
          obtain ⟨k, hk, rfl, BW⟩ := hrel
          by_cases hkN : k < N
          · have ki : (k : Int) < N := by omega
            obtain ⟨a, ha⟩ : ∃ b, p[k]? = some b := ⟨p[k]'(by rw [← hN.out]; exact hkN), List.getElem?_eq_getElem _⟩
            obtain ⟨b, hb⟩ : ∃ b, q[k]? = some b := ⟨q[k]'(by rw [hpq.out]; exact hkN), List.getElem?_eq_getElem _⟩
            have hk1 : k < (ByteArray.mk ⟨p⟩).size := by rw [sp]; exact hkN
            have hk2 : k < (ByteArray.mk ⟨q⟩).size := by rw [sq]; exact hkN
            have va : (ByteArray.mk ⟨p⟩)[k] = a := by
              obtain ⟨h, e⟩ := List.getElem?_eq_some_iff.1 ha
              exact e
            have vb : (ByteArray.mk ⟨q⟩)[k] = b := by
              obtain ⟨h, e⟩ := List.getElem?_eq_some_iff.1 hb
              exact e
            have hab : a ≠ b → 4 ≤ k ∧ k < 12 := fun hne => by
              rcases (show (k < 4 ∨ 12 ≤ k) ∨ (4 ≤ k ∧ k < 12) by omega) with h | h
              · exact absurd (Option.some.inj (by rw [← ha, ← hb]; exact hby.out k h)) hne
              · exact h
            replace ha := Lib.hid ha
            replace hb := Lib.hid hb
            replace hab := Lib.hid hab
            by_cases hne : a = b
            · have d1 : ((a.toNat : Int) != (b.toNat : Int)) = false := by rw [hne]; simp
              go_wp2_with fail
              go_quiet (fail)
              have bq := Buf.below_drewN (Below.refl wr.heap.size wr) nq
              generalize wr.drewN nq = w10 at *
              replace BW := Lib.hid (Buf.then_ BW.out bq)
              clear bq
              go_wp2_with fail
              first
              | exact ⟨⟨k + 1, by omega, by go_num, BW⟩, by simp [intOf]; omega⟩
              | (go_roundw
                 case rel => exact ⟨k + 1, by omega, by go_num, BW⟩
                 case measure => simp [intOf]; omega)
            · obtain ⟨k4, k12⟩ := hab.out hne
              have d1 : ((a.toNat : Int) != (b.toNat : Int)) = true := by
                rw [bne_iff_ne]; intro h; exact hne (UInt8.toNat_inj.1 (by omega))
              have d2 : decide ((k : Int) < 4) = false := by simp; omega
              have d3 : decide ((12 : Int) ≤ (k : Int)) = false := by simp; omega
              go_wp2_with fail
              go_quiet (fail)
              have bq := Buf.below_drewN (Below.refl wr.heap.size wr) nq
              generalize wr.drewN nq = w10 at *
              replace BW := Lib.hid (Buf.then_ BW.out bq)
              clear bq
              go_wp2_with fail
              first
              | exact ⟨⟨k + 1, by omega, by go_num, BW⟩, by simp [intOf]; omega⟩
              | (go_roundw
                 case rel => exact ⟨k + 1, by omega, by go_num, BW⟩
                 case measure => simp [intOf]; omega)
          · obtain rfl : N = k := by omega
            have hnk : ¬ ((N : Int) < N) := by omega
            have hNF : (N : Int) = 64 * F := by have := lx.out; have := hN.out; omega
            have hk := hFk.out
            have s1 : (k2 : Int) ≤ 15 * (N : Int) / 64 - 2 := by omega
            have s2 : 15 * (N : Int) / 64 - 2 - (k2 : Int) < 15 := by omega
            have s3 : 15 * (N : Int) / 64 ≤ 120 := by omega
            have s4 : 0 ≤ 15 * (N : Int) / 64 := by omega
            clear hNF hk
            go_wp2_with fail
            with_reducible refine (Sn.out _).mono ?_
            rintro e w12 ⟨rfl, b12⟩
            go_wp2_with fail
            go_ret
            exact ⟨rfl, Buf.then_ BW.out b12⟩
  · have hd : decide ((len0 : Int) ≤ 500) = false := by simp; omega
    go_enter Try.func4, Try.ntmps4
    go_wp2_with (first | (go_at_call 7; refine (light_any _ _ _ _).mono ?_; rintro e w1 ⟨rfl, rfl⟩; rw [hd]) | (go_at_call 8; refine (Sn.out _).mono ?_; rintro e w2 ⟨rfl, hb⟩))
    go_ret
    exact ⟨rfl, hb⟩
end Laws
end Go.Proofs.Ythdahfaejpjkhaa
