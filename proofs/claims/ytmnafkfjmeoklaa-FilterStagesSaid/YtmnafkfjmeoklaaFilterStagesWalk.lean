/- The walk of FilterStages. -/
import Derived.Test.YtmnafkfjmeoklaaFilX
import Derived.Test.YtmnafkfjmeoklaaFilS
import Derived.BigRegion
set_option linter.unusedVariables false
namespace Go.Proofs.Ytmnafkfjmeoklaa
open Go.RowKit Wi Dice
namespace Laws
open Fil
theorem sv_nil (w : World) (X : Nat → Int) : SV w (.slice none 0 0) 0 X := ⟨none, 0, rfl, Nat.le_refl _, by decide, fun h => absurd h (by omega)⟩
theorem refsame0 (w : World) :
    Calls Try.prog 12 #[.agg #[.slice none 0 0, .int .i64 0, .int .i64 0], .agg #[.slice none 0 0, .int .i64 0, .int .i64 0]] w fun e w' => e = .returned (.bool true) ∧ Below w.heap.size w w' := by
  have W0 := Lib.hid (((new_block (w := w) (.cells #[.slice none 0 0, .int .i64 0, .int .i64 0] 33)).alloc (by simp) (.cells #[.slice none 0 0, .int .i64 0, .int .i64 0] 33)))
  have S := Lib.hid fun w' => same_yes (n := 0) (X := fun _ => 0) (Y := fun _ => 0) (sv_nil w' _) (sv_nil w' _) (fun _ _ => rfl) (by omega)
  go_enter Try.func12, Try.ntmps12
  go_wp2_with fail
  refine (S.out _).mono ?_
  rintro e w1 ⟨rfl, hb⟩
  have W1 := Lib.hid (Buf.then_ W0.out hb)
  clear hb
  go_wp2_with fail
  go_ret
  exact ⟨rfl, W1.out⟩
theorem row_at {w : World} {B g c : Nat} {l : List Int} (h : w.ownsRow B 3 1 (.slice (some ⟨g, 0, none⟩) l.length c) l.length (ints l)) (k : Nat) (hk : k < l.length) : w.cell? ⟨g, k, none⟩ = some (.int .i64 (fn l k)) := by
  have := h.cells (g := g) rfl k (.int .i64 (fn l k)) (by simp [ints, fn, List.getD, hk])
  rwa [Addr.add_lit, Nat.zero_add] at this
theorem fg_copy : FG 1 (fn [128]) 1 7 := ⟨by omega, by omega, by omega, by decide, by decide, by decide⟩
theorem copies (X : Nat → Int) (n i : Nat) (hi : i < n) : fn (outs (fn [128]) X 1 7 1 5 n) i = X i := by
  have h := outs_one_at (fn [128]) X 1 7 5 n i (by omega) (by omega)
  unfold fn at *
  rw [h]
  have e : 1 - 1 + i = i := by omega
  rw [e]
  show (0 + (128 : Int) * X (i - 0)) / 2 ^ 7 = X i
  rw [Nat.sub_zero]
  have : (2 : Int) ^ 7 = 128 := by decide
  rw [this]; omega
theorem sv_congr {w : World} {v : Value} {n : Nat} {X Y : Nat → Int} (h : SV w v n X) (he : ∀ j, j < n → X j = Y j) : SV w v n Y := by
  obtain ⟨a, c, e, h1, h2, h3⟩ := h
  refine ⟨a, c, e, h1, h2, fun h0 => ?_⟩
  obtain ⟨b, off, e1, e2, e3⟩ := h3 h0
  exact ⟨b, off, e1, e2, fun j hj => by rw [← he j hj]; exact e3 j hj⟩
theorem apply_copy {w : World} {v u : Value} {n : Nat} {X : Nat → Int} (h : SV w v 1 (fn [128])) (hx : SV w u n X) (hn : n ≤ 65536) (hX : ∀ j, j < n → -1073741823 ≤ X j ∧ X j ≤ 1073741823) :
    Calls Try.prog 13 #[.agg #[v, .int .i64 1, .int .i64 7], u, .int .i64 5] w fun e w' => (∃ a c, e = .returned (.tuple #[.slice a n c, .int .i64 0]) ∧ SV w' (.slice a n c) n X) ∧ Below w.heap.size w w' := by
  refine (apply_any 5 h hx fg_copy hn hX (by decide) (by decide)).mono ?_
  rintro e w' ⟨⟨r, rfl, hr⟩, hb⟩
  have S := sv_own hr
  have hlen : (outs (fn [128]) X 1 7 1 5 n).length = n := by rw [outs_one_len _ _ _ _ _ _ (by omega)]; omega
  rw [hlen] at S
  have S' := sv_congr S (Y := X) (fun j hj => copies X n j hj)
  obtain ⟨a, c, e, _⟩ := S
  subst e
  exact ⟨⟨a, c, rfl, S'⟩, hb⟩
set_option maxHeartbeats 8000000 in
set_option maxRecDepth 100000 in
theorem filterStages_walk (a0 : Option Addr) (len0 cap0 : Nat) (z0 : List Int) (w : World) (w0 : Buf.IsRow .i64 w a0 len0 cap0 z0) :
    Calls Try.prog 3 #[.slice a0 len0 cap0] w fun e w' => e = .returned (.bool true) ∧ Below w.heap.size w w' := by
  by_cases hs : len0 ≤ 500
  · have hd : decide ((len0 : Int) ≤ 500) = true := by simp; omega
    go_enter Try.func3, Try.ntmps3
    go_wp2_with (first | (go_at_call 6; refine (light_any _ _ _ _).mono ?_; rintro e w1 ⟨rfl, rfl⟩; rw [hd]) | (go_at_call 8; refine (roll_any a0 len0 cap0 z0 _ w0 hs).mono ?_; rintro e w2 ⟨rfl, hdi⟩))
    refine (stage_any hdi).mono ?_
    rintro e w3 ⟨hst, hl⟩
    have L3 := Lib.hid hl
    have lt2 := hdi.lt
    clear hdi hl w0
    rcases hst with ⟨k, n0, n1, n2, d0, d1, d2, hk, rfl⟩ | ⟨v, l, fac, s, rfl, ho, ht, h6, f1, f2, s4⟩
    · unfold stage sc
      go_wp2_with fail
      refine (samples_any 20 (by omega) (by omega) L3.out.di).mono ?_
      rintro e w4 ⟨⟨u, x, rfl, hox, hr, hx1, hx2⟩, hl⟩
      have W4 := Lib.hid hl.di.bel
      clear hl hox hr
      have ST := Lib.hid fun w' => stageOf_no k n0 n1 n2 d0 d1 d2 hk w'
      unfold stage sc at ST
      have B5 := Lib.hid (heap_alloc_new w4 (.cells #[.int .i64 k, .int .i64 n0, .int .i64 n1, .int .i64 n2, .int .i64 d0, .int .i64 d1, .int .i64 d2, .slice none 0 0, .int .i64 0, .int .i64 0] 29))
      have W5 := Lib.hid (Buf.then_ W4.out (new_block (.cells #[.int .i64 k, .int .i64 n0, .int .i64 n1, .int .i64 n2, .int .i64 d0, .int .i64 d1, .int .i64 d2, .slice none 0 0, .int .i64 0, .int .i64 0] 29)))
      clear W4 L3
      have hk2 : (k != 2) = true := by simp; omega
      obtain ⟨⟨c0, c1, c2, c3, c4⟩, c5, c6, c7, c8, c9⟩ := cells10 B5.out
      go_wp2_with fail
      refine (ST.out _).mono ?_
      rintro e w6 ⟨rfl, hb⟩
      replace B5 := Lib.hid ((hb.block _ (Array.getElem?_eq_some_iff.1 B5.out).1).trans B5.out)
      replace W5 := Lib.hid (Buf.then_ W5.out hb)
      clear hb ST c0 c1 c2 c3 c4 c5 c6 c7 c8 c9
      have hB := new_block (w := w6) (.cells #[.slice none 0 0, .int .i64 0, .int .i64 0] 33)
      replace B5 := Lib.hid ((hB.block _ (Array.getElem?_eq_some_iff.1 B5.out).1).trans B5.out)
      replace W5 := Lib.hid (Buf.then_ W5.out hB)
      clear hB
      obtain ⟨⟨c0, c1, c2, c3, c4⟩, c5, c6, c7, c8, c9⟩ := cells10 B5.out
      clear c1 c2 c3 c4 c5 c6 c7 c8 c9
      go_wp2_with (first
        | (go_at_call 12; refine (refsame0 _).mono ?_; rintro e w7 ⟨rfl, hb⟩; replace W5 := Lib.hid (Buf.then_ W5.out hb); clear hb)
        | (go_at_call 7; refine (Fil.sane_any _).mono ?_; rintro e w20 ⟨rfl, hb⟩; replace W5 := Lib.hid (Buf.then_ W5.out hb); clear hb))
      go_ret
      exact ⟨rfl, W5.out⟩
    · have n1 := ht.n1
      obtain ⟨gv, cv, rfl, hg1, hg2⟩ := ho.form (by omega)
      unfold stage sc
      go_wp2_with fail
      refine (samples_any 20 (by omega) (by omega) L3.out.di).mono ?_
      rintro e w4 ⟨⟨u, x, rfl, hox, hir, hx1, hx2⟩, hl⟩
      have W4 := Lib.hid hl.di.bel
      have RV := Lib.hid (row_grown ho hl.far (by omega))
      have SX := Lib.hid (sv_own hox)
      clear hl hox ho L3
      obtain ⟨r, hr⟩ : ∃ r, decide (psum (fn l) l.length ≤ 2 ^ s) = r := ⟨_, rfl⟩
      replace hr := Lib.hid hr
      have hB := new_block (w := w4) (.cells #[.int .i64 2, .int .i64 0, .int .i64 0, .int .i64 0, .int .i64 0, .int .i64 0, .int .i64 0, .slice (some ⟨gv, 0, none⟩) l.length cv, .int .i64 fac, .int .i64 s] 29)
      have B5 := Lib.hid (heap_alloc_new w4 (.cells #[.int .i64 2, .int .i64 0, .int .i64 0, .int .i64 0, .int .i64 0, .int .i64 0, .int .i64 0, .slice (some ⟨gv, 0, none⟩) l.length cv, .int .i64 fac, .int .i64 s] 29))
      replace W4 := Lib.hid (Buf.then_ W4.out hB)
      replace RV := Lib.hid (row_below RV.out hB)
      replace SX := Lib.hid (SX.out.below hB)
      clear hB
      have ST := Lib.hid (stageOf_yes RV.out ht h6 f1 f2 s4 r hr)
      unfold stage sc at ST
      obtain ⟨⟨c0, c1, c2, c3, c4⟩, c5, c6, c7, c8, c9⟩ := cells10 B5.out
      go_wp2_with fail
      generalize w4.alloc (.cells #[.int .i64 2, .int .i64 0, .int .i64 0, .int .i64 0, .int .i64 0, .int .i64 0, .int .i64 0, .slice (some ⟨gv, 0, none⟩) l.length cv, .int .i64 fac, .int .i64 s] 29) = w5 at *
      refine ST.out.mono ?_
      rintro e w6 ⟨hres, hb⟩
      replace B5 := Lib.hid ((hb.block _ (Array.getElem?_eq_some_iff.1 B5.out).1).trans B5.out)
      replace W4 := Lib.hid (Buf.then_ W4.out hb)
      replace RV := Lib.hid (row_below RV.out hb)
      replace SX := Lib.hid (SX.out.below hb)
      clear ST c0 c1 c2 c3 c4 c5 c6 c7 c8 c9
      obtain ⟨ua, uc, rfl⟩ : ∃ a c, u = .slice a x.length c := by obtain ⟨a, c, e, _⟩ := SX.out; exact ⟨a, c, e⟩
      rcases hres with ⟨rfl, g, c, rfl, hrow⟩ | ⟨rfl, rfl⟩
      · have hD := new_block (w := w6) (.cells #[.slice (some ⟨g, 0, none⟩) l.length c, .int .i64 fac, .int .i64 s] 33)
        have B7 := Lib.hid (heap_alloc_new w6 (.cells #[.slice (some ⟨g, 0, none⟩) l.length c, .int .i64 fac, .int .i64 s] 33))
        replace B5 := Lib.hid ((hD.block _ (Array.getElem?_eq_some_iff.1 B5.out).1).trans B5.out)
        replace W4 := Lib.hid (Buf.then_ W4.out hD)
        replace RV := Lib.hid (row_below RV.out hD)
        replace SX := Lib.hid (SX.out.below hD)
        have RG := Lib.hid (row_below hrow hD)
        clear hD hb hrow
        have RC := Lib.hid fun k hk => row_at RV.out k hk
        obtain ⟨⟨c0, c1, c2, c3, c4⟩, c5, c6, c7, c8, c9⟩ := cells10 B5.out
        clear c1 c2 c3 c4 c5 c6
        have hl6 : (l.length : Int) ≤ 6 := by omega
        go_wp2_with fail
        generalize w6.alloc (.cells #[.slice (some ⟨g, 0, none⟩) l.length c, .int .i64 fac, .int .i64 s] 33) = w7 at *
        go_loop [8, 46] (fun sv i => ∃ k : Nat, k ≤ l.length ∧ i = .int .i64 k ∧ sv = .int .i64 (psum (fn l) k)) (fun _ i => l.length - (intOf i).toNat)
        case atStart => exact ⟨0, by omega, rfl, rfl⟩
        case round =>
          obtain ⟨k, hk, rfl, rfl⟩ := hrel
          have pb := psum_bd (fn l) k (fun j hj => ht.at j (by omega))
          by_cases hlt : k < l.length
          · have hlt' : (k : Int) < l.length := by omega
            have ck := RC.out k hlt
            obtain ⟨t0, t4⟩ := ht.at k hlt
            have ps : Hid (psum (fn l) (k + 1) = psum (fn l) k + fn l k) := Lib.hid rfl
            generalize fn l k = t at ck t0 t4 ps
            generalize psum (fn l) k = pk at pb ps
            have mx : max t (-t) = t := by omega
            go_wp2
            go_round
            case rel => exact ⟨k + 1, by omega, by go_num, by rw [ps.out]⟩
            case measure => simp [intOf]; omega
          · obtain rfl : k = l.length := by omega
            generalize psum (fn l) l.length = pk at pb hr
            have hq : pk ≤ 2 ^ s := by have := hr.out; simpa using this
            obtain ⟨p1, p2⟩ := pow_bd30 s (by omega)
            have hE := (new_block (w := w7) (.cells #[.int .i64 128] 3)).trans ((new_block (w := w7.alloc (.cells #[.int .i64 128] 3)) (.cells #[.slice (some ⟨w7.heap.size, 0, none⟩) 1 1, .int .i64 1, .int .i64 7] 33)).mono (by simp))
            have SC := Lib.hid ((sv_lit w7 [128] 3 (by decide)).below (new_block (w := w7.alloc (.cells #[.int .i64 128] 3)) (.cells #[.slice (some ⟨w7.heap.size, 0, none⟩) 1 1, .int .i64 1, .int .i64 7] 33)))
            replace B5 := Lib.hid ((hE.block _ (Array.getElem?_eq_some_iff.1 B5.out).1).trans B5.out)
            replace W4 := Lib.hid (Buf.then_ W4.out hE)
            replace SX := Lib.hid (SX.out.below hE)
            replace B7 := Lib.hid ((hE.block _ (Array.getElem?_eq_some_iff.1 B7.out).1).trans B7.out)
            replace RV := Lib.hid (row_below RV.out hE)
            replace RG := Lib.hid (row_below RG.out hE)
            have A := Lib.hid (apply_copy SC.out SX.out (by omega) hir)
            clear hE RC hr
            go_wp2_with fail
            generalize (w7.alloc (.cells #[.int .i64 128] 3)).alloc (.cells #[.slice (some ⟨w7.heap.size, 0, none⟩) 1 1, .int .i64 1, .int .i64 7] 33) = w8 at *
            refine A.out.mono ?_
            rintro e w9 ⟨⟨ya, yc, rfl, SY⟩, hb⟩
            replace B5 := Lib.hid ((hb.block _ (Array.getElem?_eq_some_iff.1 B5.out).1).trans B5.out)
            replace W4 := Lib.hid (Buf.then_ W4.out hb)
            replace SX := Lib.hid (SX.out.below hb)
            replace SY := Lib.hid SY
            replace B7 := Lib.hid ((hb.block _ (Array.getElem?_eq_some_iff.1 B7.out).1).trans B7.out)
            replace RV := Lib.hid (row_below RV.out hb)
            replace RG := Lib.hid (row_below RG.out hb)
            clear hb A SC c0 c7 c8 c9
            obtain ⟨⟨c0, c1, c2, c3, c4⟩, c5, c6, c7, c8, c9⟩ := cells10 B5.out
            clear c0 c1 c2 c3 c4 c5 c6
            obtain ⟨d0, d1, d2⟩ := cells3 B7.out
            go_wp2_with fail
            refine (same_yes (sv_row RG.out).2 (sv_row RV.out).2 (fun _ _ => rfl) (by omega)).mono ?_
            rintro e w10 ⟨rfl, hb⟩
            replace B5 := Lib.hid ((hb.block _ (Array.getElem?_eq_some_iff.1 B5.out).1).trans B5.out)
            replace B7 := Lib.hid ((hb.block _ (Array.getElem?_eq_some_iff.1 B7.out).1).trans B7.out)
            replace W4 := Lib.hid (Buf.then_ W4.out hb)
            replace SX := Lib.hid (SX.out.below hb)
            replace SY := Lib.hid (SY.out.below hb)
            clear hb c7 c8 c9 d0 d1 d2
            obtain ⟨⟨c0, c1, c2, c3, c4⟩, c5, c6, c7, c8, c9⟩ := cells10 B5.out
            clear c0 c1 c2 c3 c4 c5 c6
            obtain ⟨d0, d1, d2⟩ := cells3 B7.out
            have eff : (fac == fac) = true := by simp
            have ess : ((s : Int) == (s : Int)) = true := by simp
            go_wp2_with fail
            refine (same_yes SY.out SX.out (fun _ _ => rfl) (by omega)).mono ?_
            rintro e w11 ⟨rfl, hb⟩
            replace W4 := Lib.hid (Buf.then_ W4.out hb)
            clear hb
            go_wp2_with (go_at_call 7; refine (Fil.sane_any _).mono ?_; rintro e w20 ⟨rfl, hb⟩; replace W4 := Lib.hid (Buf.then_ W4.out hb); clear hb)
            go_ret
            exact ⟨rfl, W4.out⟩
      · have hD := new_block (w := w6) (.cells #[.slice none 0 0, .int .i64 0, .int .i64 0] 33)
        have B7 := Lib.hid (heap_alloc_new w6 (.cells #[.slice none 0 0, .int .i64 0, .int .i64 0] 33))
        replace B5 := Lib.hid ((hD.block _ (Array.getElem?_eq_some_iff.1 B5.out).1).trans B5.out)
        replace W4 := Lib.hid (Buf.then_ W4.out hD)
        replace RV := Lib.hid (row_below RV.out hD)
        replace SX := Lib.hid (SX.out.below hD)
        clear hD hb
        have RC := Lib.hid fun k hk => row_at RV.out k hk
        obtain ⟨⟨c0, c1, c2, c3, c4⟩, c5, c6, c7, c8, c9⟩ := cells10 B5.out
        clear c1 c2 c3 c4 c5 c6
        have hl6 : (l.length : Int) ≤ 6 := by omega
        go_wp2_with fail
        generalize w6.alloc (.cells #[.slice none 0 0, .int .i64 0, .int .i64 0] 33) = w7 at *
        go_loop [8, 46] (fun sv i => ∃ k : Nat, k ≤ l.length ∧ i = .int .i64 k ∧ sv = .int .i64 (psum (fn l) k)) (fun _ i => l.length - (intOf i).toNat)
        case atStart => exact ⟨0, by omega, rfl, rfl⟩
        case round =>
          obtain ⟨k, hk, rfl, rfl⟩ := hrel
          have pb := psum_bd (fn l) k (fun j hj => ht.at j (by omega))
          by_cases hlt : k < l.length
          · have hlt' : (k : Int) < l.length := by omega
            have ck := RC.out k hlt
            obtain ⟨t0, t4⟩ := ht.at k hlt
            have ps : Hid (psum (fn l) (k + 1) = psum (fn l) k + fn l k) := Lib.hid rfl
            generalize fn l k = t at ck t0 t4 ps
            generalize psum (fn l) k = pk at pb ps
            have mx : max t (-t) = t := by omega
            go_wp2
            go_round
            case rel => exact ⟨k + 1, by omega, by go_num, by rw [ps.out]⟩
            case measure => simp [intOf]; omega
          · obtain rfl : k = l.length := by omega
            generalize psum (fn l) l.length = pk at pb hr
            have hq : pk > 2 ^ s := by have := hr.out; simpa using this
            obtain ⟨p1, p2⟩ := pow_bd30 s (by omega)
            have hE := (new_block (w := w7) (.cells #[.int .i64 128] 3)).trans ((new_block (w := w7.alloc (.cells #[.int .i64 128] 3)) (.cells #[.slice (some ⟨w7.heap.size, 0, none⟩) 1 1, .int .i64 1, .int .i64 7] 33)).mono (by simp))
            have SC := Lib.hid ((sv_lit w7 [128] 3 (by decide)).below (new_block (w := w7.alloc (.cells #[.int .i64 128] 3)) (.cells #[.slice (some ⟨w7.heap.size, 0, none⟩) 1 1, .int .i64 1, .int .i64 7] 33)))
            replace B5 := Lib.hid ((hE.block _ (Array.getElem?_eq_some_iff.1 B5.out).1).trans B5.out)
            replace W4 := Lib.hid (Buf.then_ W4.out hE)
            replace SX := Lib.hid (SX.out.below hE)
            have A := Lib.hid (apply_copy SC.out SX.out (by omega) hir)
            clear hE RC hr
            go_wp2_with fail
            generalize (w7.alloc (.cells #[.int .i64 128] 3)).alloc (.cells #[.slice (some ⟨w7.heap.size, 0, none⟩) 1 1, .int .i64 1, .int .i64 7] 33) = w8 at *
            refine A.out.mono ?_
            rintro e w9 ⟨⟨ya, yc, rfl, SY⟩, hb⟩
            replace B5 := Lib.hid ((hb.block _ (Array.getElem?_eq_some_iff.1 B5.out).1).trans B5.out)
            replace W4 := Lib.hid (Buf.then_ W4.out hb)
            replace SX := Lib.hid (SX.out.below hb)
            replace SY := Lib.hid SY
            clear hb A SC c0 c7 c8 c9
            go_wp2_with fail
            refine (same_yes SY.out SX.out (fun _ _ => rfl) (by omega)).mono ?_
            rintro e w11 ⟨rfl, hb⟩
            replace W4 := Lib.hid (Buf.then_ W4.out hb)
            clear hb
            go_wp2_with (go_at_call 7; refine (Fil.sane_any _).mono ?_; rintro e w20 ⟨rfl, hb⟩; replace W4 := Lib.hid (Buf.then_ W4.out hb); clear hb)
            go_ret
            exact ⟨rfl, W4.out⟩
  · have hd : decide ((len0 : Int) ≤ 500) = false := by simp; omega
    go_enter Try.func3, Try.ntmps3
    go_wp2_with (first | (go_at_call 6; refine (light_any _ _ _ _).mono ?_; rintro e w1 ⟨rfl, rfl⟩; rw [hd]) | (go_at_call 7; refine (Fil.sane_any _).mono ?_; rintro e w2 ⟨rfl, hb⟩))
    go_ret
    exact ⟨rfl, hb⟩
end Laws
end Go.Proofs.Ytmnafkfjmeoklaa
