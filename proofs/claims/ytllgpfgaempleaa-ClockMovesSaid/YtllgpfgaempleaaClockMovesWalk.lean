/- The walk of ClockMoves. -/
import Derived.Test.YtllgpfgaempleaaClockO
import Derived.Deep.RegionHeld
import Derived.BigRegion
set_option linter.unusedVariables false
namespace Go.Proofs.Ytllgpfgaempleaa
open Go.RowKit Wi Dice
namespace Laws
open Clock
/-- Anchors of which the first k have been moved. -/
structure Mv (w : World) (g n k : Nat) (T L H : Nat → Int) (b : Int) : Prop where
  cells : ∀ j, j < n → An w g (j * 3) (T j) (if j < k then L j + b else L j) (if j < k then H j + b else H j)
  free : ∀ q, w.frozen? ⟨g, q, none⟩ = false
theorem an_far {w : World} {g d j : Nat} {t l h : Int} (a : An w g j t l h) (hd : d ≠ g) (q : Nat) (u : Value) : An (w.setCell ⟨d, q, none⟩ u) g j t l h :=
  ⟨(World.cell?_setCell_far _ _ _ _ hd).trans a.1, (World.cell?_setCell_far _ _ _ _ hd).trans a.2.1, (World.cell?_setCell_far _ _ _ _ hd).trans a.2.2⟩
theorem set_other {w : World} {g i j : Nat} (h : i ≠ j) (u : Value) : (w.setCell ⟨g, i, none⟩ u).cell? ⟨g, j, none⟩ = w.cell? ⟨g, j, none⟩ :=
  World.cell?_setCell_other _ _ _ _ (fun e => h (by injection e))
theorem Mv.step {w : World} {g n k : Nat} {T L H : Nat → Int} {b : Int} (h : Mv w g n k T L H b) (hk : k < n) :
    Mv ((w.setCell ⟨g, k * 3 + 1, none⟩ (.int .i64 (L k + b))).setCell ⟨g, k * 3 + 2, none⟩ (.int .i64 (H k + b))) g n (k + 1) T L H b := by
  refine ⟨fun j hj => ?_, fun q => by rw [World.frozen?_setCell, World.frozen?_setCell]; exact h.free q⟩
  obtain ⟨a0, a1, a2⟩ := h.cells j hj
  by_cases he : j = k
  · subst he
    rw [if_pos (by omega), if_pos (by omega)]
    rw [if_neg (by omega)] at a1 a2
    refine ⟨?_, ?_, ?_⟩
    · rw [set_other (by omega), set_other (by omega)]; exact a0
    · rw [set_other (by omega)]; exact World.cell?_setCell_same _ _ _ a1
    · exact World.cell?_setCell_same _ _ _ ((set_other (show j * 3 + 1 ≠ j * 3 + 2 by omega) _).trans a2)
  · have e : (if j < k + 1 then L j + b else L j) = (if j < k then L j + b else L j) := by
      by_cases h1 : j < k
      · rw [if_pos h1, if_pos (by omega)]
      · rw [if_neg h1, if_neg (by omega)]
    have e' : (if j < k + 1 then H j + b else H j) = (if j < k then H j + b else H j) := by
      by_cases h1 : j < k
      · rw [if_pos h1, if_pos (by omega)]
      · rw [if_neg h1, if_neg (by omega)]
    rw [e, e']
    refine ⟨?_, ?_, ?_⟩
    · rw [set_other (by omega), set_other (by omega)]; exact a0
    · rw [set_other (by omega), set_other (by omega)]; exact a1
    · rw [set_other (by omega), set_other (by omega)]; exact a2
theorem Mv.drewN {w : World} {g n k : Nat} {T L H : Nat → Int} {b : Int} (h : Mv w g n k T L H b) (m : Nat) : Mv (w.drewN m) g n k T L H b := ⟨h.cells, h.free⟩
/-- A list of numbers in memory, nil included. -/
def JR (w : World) (v : Value) (js : List Nat) : Prop := ∃ a c, v = .slice a js.length c ∧ js.length ≤ c ∧ ∀ k, k < js.length → ∃ p, a = some ⟨p, 0, none⟩ ∧ w.cell? ⟨p, k, none⟩ = some (.int .i64 ((js.getD k 0 : Nat) : Int))
theorem jr_of {B : Nat} {w : World} {v : Value} {js : List Nat} (h : Buf.Own B w v (ji js)) : JR w v js := by
  rcases own_row h with ⟨rfl, rfl⟩ | ⟨p, c, rfl, hc, hk⟩
  · exact ⟨none, 0, rfl, Nat.le_refl _, fun k hk => by simp at hk⟩
  · exact ⟨_, c, rfl, hc, fun k hkk => ⟨p, rfl, hk k hkk⟩⟩
def Booled (e : Ending) : Prop := ∃ b, e = .returned (.bool b)
theorem bool_any {W w : World} {g : Nat} {a : Option Addr} {len cap : Nat} {zs : List Int} (n : Int) (h : Di W w g a len cap zs) (h1 : 1 ≤ n) (h2 : n ≤ 4611686018427387904) :
    Calls Try.prog 9 #[.pointer (some ⟨g, 0, none⟩), .int .i64 n] w fun e w' => Booled e ∧ Dice.Left W w w' g a len cap zs := by
  have H := Lib.hid h
  clear h
  go_enter Try.func9, Try.ntmps9
  go_wp2_with fail
  refine (next_any n H.out h1 h2).mono ?_
  rintro e w1 ⟨⟨v, rfl, v0, v1⟩, hl⟩
  go_wp2
  go_ret
  exact ⟨⟨_, rfl⟩, hl⟩
set_option maxHeartbeats 8000000 in
set_option maxRecDepth 100000 in
theorem clockMoves_walk (a0 : Option Addr) (len0 cap0 : Nat) (z0 : List Int) (a1 : Int) (a2 : Int) (w : World) (w0 : Buf.IsRow .i64 w a0 len0 cap0 z0) (w1 : (Lit.int .u16 a1).wf = true) (w2 : (Lit.int .u32 a2).wf = true) :
    Calls Try.prog 3 #[.slice a0 len0 cap0, .int .u16 a1, .int .u32 a2] w fun e w' => e = .returned (.bool true) ∧ Below w.heap.size w w' := by
  obtain ⟨b0, b1⟩ := Ma.wf_u16 w1
  obtain ⟨c0, c1⟩ := Ma.wf_u32 w2
  clear w1 w2
  obtain ⟨i0, hi, hz0, hz1, hz2⟩ := info_parts infoA
  by_cases hs : len0 ≤ 500
  · have hd : decide ((len0 : Int) ≤ 500) = true := by simp; omega
    go_enter Try.func3, Try.ntmps3
    go_wp2_with (first | (go_at_call 5; refine (light_any _ _ _ _).mono ?_; rintro e w1 ⟨rfl, rfl⟩; rw [hd]) | (go_at_call 7; refine (roll_any a0 len0 cap0 z0 _ w0 hs).mono ?_; rintro e w2 ⟨rfl, hdi⟩))
    refine (bool_any 2 hdi (by omega) (by omega)).mono ?_
    rintro e w3 ⟨⟨jb, rfl⟩, hl⟩
    have L3 := Lib.hid hl.di
    clear hl hdi
    go_wp2_with fail
    refine (anchors_any jb L3.out).mono ?_
    rintro e w4 ⟨⟨v, x, P, tag, at_, rfl, x0, x1, G, ho⟩, hl⟩
    have W4 := Lib.hid hl.di.bel
    have ok := G.ok
    have hall := Lib.hid G.all
    have n5 := G.n5
    clear hl L3 G
    by_cases hn : P.length = 0
    · rw [hn] at ho
      obtain ⟨a, c, rfl⟩ := own_form0 ho
      clear ho ok hn hall
      go_wp2_with (go_at_call 6; refine (Clock.sane_any _).mono ?_; rintro e w9 ⟨rfl, hb⟩)
      go_ret
      exact ⟨rfl, Buf.then_ W4.out hb⟩
    · obtain ⟨g, c, rfl, hc, hm⟩ := own_form ho (by omega)
      have A := Lib.hid (as_of ho rfl)
      have hnews := Lib.hid (ho.cells (g := g) rfl)
      have hlen := Lib.hid (Tri.cells_length P)
      have hint : Hid (∀ u ∈ Tri.cells P, u.oneCell' = true) := Lib.hid (by intro u hu; simp [Tri.cells] at hu; obtain ⟨_, _, _, _, h⟩ := hu; rcases h with rfl | rfl | rfl <;> rfl)
      have hgl : g < w4.heap.size := by
        rcases ho.2 with ⟨h, _⟩ | ⟨g', _, _, h, _, h', _⟩
        · cases h
        · injection h with h; injection h with h; injection h with h; subst h; exact (Array.getElem?_eq_some_iff.1 h').1
      have hn0 : ((P.length : Int) == 0) = false := by rw [beq_eq_false_iff_ne]; omega
      have hP : 0 < P.length := by omega
      have m1 : Hid (0 + P.length ≤ maxLen) := Lib.hid (by unfold maxLen; omega)
      have m2 : Hid ((0 + P.length) * 24 ≤ 140737488355328) := Lib.hid (by omega)
      clear ho hn
      go_wp2_with (at_builtin; refine wpList_append_own _ rfl _ _ 29 rfl w4.heap.size 34 i0 _ 3 24 Try.underlying29 hi hz0 hz1 hz2 rfl (by decide) (.slice none 0 0) 0 [] rfl (World.ownsRow_nil _ _ _ _) ⟨g, 0, none⟩ P.length c (Tri.cells P) rfl hlen.out hnews.out hint.out m1.out m2.out (Nat.le_refl _) ?_; intro v' w5 hown hg _; obtain ⟨g2, c2, rfl, hc2, hm2⟩ := own_form hown (by omega); simp only [Nat.zero_add, List.nil_append] at hown hc2)
      have hg2 : w4.heap.size ≤ g2 := (hown.lt g2 rfl).1
      have W5 : Hid (Below w1.heap.size w1 w5) := Lib.hid (W4.out.grown hg W4.out.size (fun k hk => by cases hk))
      have A5 : Hid (As w5 g P.length (tf P) (lf P) (hf P)) := Lib.hid fun k hk => by
        have hb := hg.block g hgl (by simp [Value.ownBlock])
        obtain ⟨x0, x1, x2⟩ := A.out k hk
        exact ⟨(World.cell?_of_block (a := ⟨g, _, none⟩) hb).trans x0, (World.cell?_of_block (a := ⟨g, _, none⟩) hb).trans x1, (World.cell?_of_block (a := ⟨g, _, none⟩) hb).trans x2⟩
      have M5 : Hid (Mv w5 g2 P.length 0 (tf P) (lf P) (hf P) a2) := Lib.hid ⟨fun j hj => by rw [if_neg (by omega), if_neg (by omega)]; exact as_of hown rfl j hj, fun q => hown.frozenAt q⟩
      have hgg : g2 ≠ g := by omega
      have hB2 : w1.heap.size ≤ g2 := Nat.le_trans W4.out.size hg2
      have hlw : g < w4.heap.size ∧ 0 < P.length := ⟨hgl, hP⟩
      clear hown hg A W4 hnews hlen hint m1 m2
      generalize P.length = N at *
      generalize tf P = T at *
      generalize lf P = L at *
      generalize hf P = H at *
      have hmm : Hid (c ≤ maxLen ∧ c2 ≤ maxLen) := Lib.hid ⟨hm, by simpa using hm2⟩
      clear hm hm2
      go_wp2_with fail
      go_loopw [11, 44] (fun u i wr => ∃ k : Nat, k ≤ N ∧ i = .int .i64 k ∧ Hid (Mv wr g2 N k T L H a2) ∧ Hid (As wr g N T L H) ∧ Hid (Below w1.heap.size w1 wr)) (fun _ i _ => N - (intOf i).toNat)
      case atStart => exact ⟨0, by omega, rfl, M5, A5, W5⟩
      case round =>
        clear M5 A5 W5
        obtain ⟨k, hk, rfl, M, A, W⟩ := hrel
        by_cases hlt : k < N
        · obtain ⟨x0', x1', x2'⟩ := M.out.cells k hlt
          rw [if_neg (by omega)] at x1' x2'
          have f1 := M.out.free (k * 3 + 1)
          have f2 := M.out.free (k * 3 + 2)
          have hl := ok.l0 k hlt
          have hlh := ok.lh k hlt
          have hh := ok.h1 k hlt
          have MS := Lib.hid (M.out.step hlt)
          have AS : Hid (As ((wr.setCell ⟨g2, k * 3 + 1, none⟩ (.int .i64 (L k + a2))).setCell ⟨g2, k * 3 + 2, none⟩ (.int .i64 (H k + a2))) g N T L H) := Lib.hid fun j hj => an_far (an_far (A.out j hj) hgg _ _) hgg _ _
          have WS : Hid (Below w1.heap.size w1 ((wr.setCell ⟨g2, k * 3 + 1, none⟩ (.int .i64 (L k + a2))).setCell ⟨g2, k * 3 + 2, none⟩ (.int .i64 (H k + a2)))) := Lib.hid ((W.out.setCell hB2 _).setCell hB2 _)
          generalize hLk : L k = lk at *
          generalize hHk : H k = hk' at *
          generalize hTk : T k = tk at *
          replace hLk := Lib.hid hLk
          replace hHk := Lib.hid hHk
          replace hTk := Lib.hid hTk
          clear ok
          go_wp2_with fail
          go_region
          all_goals
            go_wp2_with fail
            go_roundw
            case rel => exact ⟨k + 1, by omega, by go_num, Lib.hid ⟨MS.out.cells, MS.out.free⟩, Lib.hid fun j hj => AS.out j hj, Lib.hid WS.out.drew⟩
            case measure => simp [intOf]; omega
        · obtain rfl : k = N := by omega
          have okm : Ok k T (fun i => L i + a2) (fun i => H i + a2) := ⟨ok.n5, ok.t0, ok.t1, ok.up, fun j hj => by have := ok.l0 j hj; omega, fun j hj => by have := ok.lh j hj; omega, fun j hj => by have := (hall.out j hj).2.2.2.2; omega⟩
          have A2 : Hid (As wr g2 k T (fun i => L i + a2) (fun i => H i + a2)) := Lib.hid fun j hj => by have := M.out.cells j hj; rwa [if_pos hj, if_pos hj] at this
          have C1 := Lib.hid fun w (a : As w g k T L H) => correct_any ok x a1 x0 (by omega) b0 (by omega) g c w hP hc hmm.out.1 a
          have C2 := Lib.hid fun w (a : As w g2 k T (fun i => L i + a2) (fun i => H i + a2)) => correct_any okm x a1 x0 (by omega) b0 (by omega) g2 c2 w hP hc2 hmm.out.2 a
          have J1 := Lib.hid fun w (a : As w g k T L H) => jumps_any ok x x0 (by omega) g c w (by omega) a
          have J2 := Lib.hid fun w (a : As w g2 k T (fun i => L i + a2) (fun i => H i + a2)) => jumps_any okm x x0 (by omega) g2 c2 w (by omega) a
          obtain ⟨e1, e2⟩ := co_shift x a1 a2 ok hP x0 (by omega) b0 (by omega) c0 c1
          rw [e1, e2] at C2
          rw [jl_shift x T L H a2 k] at J2
          obtain ⟨q3, q4, q5, q6⟩ := co_bd ok x a1 x0 (by omega) b0 (by omega) hP
          have hj5 := jl_len x T L H k
          have hjn : ∀ q, q < (jl x T L H k).length → (jl x T L H k).getD q 0 ≤ 5 := fun q hq => by
            have e : (jl x T L H k).getD q 0 = (jl x T L H k)[q] := by simp [List.getD_eq_getElem?_getD, List.getElem?_eq_getElem hq]
            rw [e]; have := (jl_mem x T L H k _ (List.getElem_mem hq)).2; omega
          replace hjn := Lib.hid hjn
          clear e1 e2 okm ok M
          generalize coL x T L H a1 k = lo at *
          generalize coH x T L H a1 k = hi' at *
          generalize jl x T L H k = js at *
          go_wp2_with fail
          refine (C1.out _ A.out).mono ?_
          rintro e w6 ⟨he, hb⟩
          have A6 := Lib.hid (A.out.below hb)
          replace A2 := Lib.hid (A2.out.below hb)
          replace W := Lib.hid (Buf.then_ W.out hb)
          clear hb A C1
          obtain ⟨r1, r2, r3, rfl, hr⟩ : ∃ r1 r2 r3, e = .returned (.tuple #[.int .i64 r1, .int .i64 r2, .int .i64 r3]) ∧ ((lo ≤ hi' ∧ r1 = (lo + hi') / 2 ∧ r2 = hi' - (lo + hi') / 2 ∧ r3 = 0) ∨ (hi' < lo ∧ r1 = 0 ∧ r2 = 0 ∧ r3 = 11)) := by
            rcases he with ⟨h, rfl⟩ | ⟨h, rfl⟩
            · exact ⟨_, _, _, rfl, .inl ⟨h, rfl, rfl, rfl⟩⟩
            · exact ⟨_, _, _, rfl, .inr ⟨h, rfl, rfl, rfl⟩⟩
          replace hr := Lib.hid hr
          clear he
          go_wp2_with fail
          refine (C2.out _ A2.out).mono ?_
          rintro e w7 ⟨he, hb⟩
          replace A6 := Lib.hid (A6.out.below hb)
          replace A2 := Lib.hid (A2.out.below hb)
          replace W := Lib.hid (Buf.then_ W.out hb)
          clear hb C2
          obtain ⟨s1, s2, rfl, hss⟩ : ∃ s1 s2, e = .returned (.tuple #[.int .i64 s1, .int .i64 s2, .int .i64 r3]) ∧ (r3 = 0 → s1 = r1 + a2 ∧ s2 = r2) := by
            rcases he with ⟨h, rfl⟩ | ⟨h, rfl⟩
            · rcases hr.out with ⟨h', rfl, rfl, rfl⟩ | ⟨h', _, _, _⟩
              · exact ⟨_, _, rfl, fun _ => by omega⟩
              · omega
            · rcases hr.out with ⟨h', _, _, _⟩ | ⟨h', rfl, rfl, rfl⟩
              · omega
              · exact ⟨_, _, rfl, fun h => by omega⟩
          have hrb : -4611686018427387904 ≤ r1 ∧ r1 ≤ 2000000000000 ∧ (r3 = 0 ∨ r3 = 11) := by rcases hr.out with ⟨_, h1, _, h2⟩ | ⟨_, h1, _, h2⟩ <;> omega
          replace hss := Lib.hid hss
          clear he hr
          go_wp2_with fail
          refine (J1.out _ A6.out).mono ?_
          rintro e w8 ⟨⟨u1, rfl, ho⟩, hb⟩
          replace A2 := Lib.hid (A2.out.below hb)
          replace W := Lib.hid (Buf.then_ W.out hb)
          clear hb J1 A6
          go_wp2_with fail
          refine (J2.out _ A2.out).mono ?_
          rintro e w9 ⟨⟨u2, rfl, ho2⟩, hb⟩
          replace W := Lib.hid (Buf.then_ W.out hb)
          obtain ⟨ja, jc, rfl, hjc, hjk⟩ := jr_of (ho.below hb)
          obtain ⟨ka, kc, rfl, hkc, hkk⟩ := jr_of ho2
          replace hjk := Lib.hid hjk
          replace hkk := Lib.hid hkk
          have ejj : ((js.length : Int) == (js.length : Int)) = true := by simp
          have err : (r3 == r3) = true := by simp
          clear hb ho ho2 J2 A2
          go_wp2_with fail
          go_loopw [22, 122] (fun u i wr => ∃ q : Nat, q ≤ js.length ∧ i = .int .i64 q ∧ Hid (∃ m, wr = w9.drewN m)) (fun _ i _ => js.length - (intOf i).toNat)
          case atStart => exact ⟨0, by omega, rfl, Lib.hid ⟨0, rfl⟩⟩
          case round =>
            obtain ⟨q, hq, rfl, hw⟩ := hrel
            obtain ⟨m, rfl⟩ := hw.out
            by_cases hlq : q < js.length
            · obtain ⟨p, rfl, hp⟩ := hjk.out q hlq
              obtain ⟨p', rfl, hp'⟩ := hkk.out q hlq
              have h5 := hjn.out q hlq
              generalize js.getD q 0 = d at hp hp' h5
              have edd : ((d : Int) == (d : Int)) = true := by simp
              clear hw
              go_wp2_with fail
              go_quiet (fail)
              go_wp2_with fail
              exact ⟨⟨q + 1, by omega, by go_num, Lib.hid ⟨_, rfl⟩⟩, by simp [intOf]; omega⟩
            · obtain rfl : q = js.length := by omega
              obtain ⟨hr1, hr2, hr3⟩ := hrb
              clear hw hjk hkk hjn err
              rcases hr3 with rfl | rfl
              · obtain ⟨rfl, rfl⟩ := hss.out rfl
                have e1 : ((r1 + a2) == (r1 + a2)) = true := by simp
                have e2 : (s2 == s2) = true := by simp
                go_wp2_with (go_at_call 6; refine (Clock.sane_any _).mono ?_; rintro e w10 ⟨rfl, hb⟩)
                go_ret
                exact ⟨rfl, Buf.then_ (Buf.below_drewN W.out _) hb⟩
              · go_wp2_with (go_at_call 6; refine (Clock.sane_any _).mono ?_; rintro e w10 ⟨rfl, hb⟩)
                go_ret
                exact ⟨rfl, Buf.then_ (Buf.below_drewN W.out _) hb⟩
  · have hd : decide ((len0 : Int) ≤ 500) = false := by simp; omega
    go_enter Try.func3, Try.ntmps3
    go_wp2_with (first | (go_at_call 5; refine (light_any _ _ _ _).mono ?_; rintro e w1 ⟨rfl, rfl⟩; rw [hd]) | (go_at_call 6; refine (Clock.sane_any _).mono ?_; rintro e w2 ⟨rfl, hb⟩))
    go_ret
    exact ⟨rfl, hb⟩
end Laws
end Go.Proofs.Ytllgpfgaempleaa
