/- The walk of ProofSound. -/
import Derived.Test.YtldgihlhioeipaaPrB
import Derived.Test.YtldgihlhioeipaaPsA
import Derived.Test.YtldgihlhioeipaaPrC
import Derived.Test.YtldgihlhioeipaaLlSX
import Derived.Test.YtldgihlhioeipaaMisP
import Derived.Laws.StructEq
import Derived.Deep.DeepCutAuto
set_option linter.unusedVariables false
set_option linter.unusedSimpArgs false
namespace Go.Proofs.Ytldgihlhioeipaa
open Go.RowKit Qt
namespace Laws
open _root_.Go.Proofs.Ytldgihlhioeipaa.Loc _root_.Go.Proofs.Ytldgihlhioeipaa.Loc.Prf
structure Ckp (p : Prop) : Prop where
  out : p
theorem row_keep {w w' : World} {a : Option Addr} {len cap : Nat} {zs : List Int} (h : Buf.IsRow .i64 w a len cap zs) (hb : Below w.heap.size w w') : Buf.IsRow .i64 w' a len cap zs := by
  rcases h with h | ⟨x, e, h1, h2, h3, h4, h5⟩
  · exact .inl h
  · exact .inr ⟨x, e, h1, h2, h3, fun i hi => by
      have h := h4 i hi
      exact (hb.cell (Nat.lt_of_not_le fun hh => by unfold World.cell? at h; rw [Array.getElem?_eq_none hh] at h; cases h)).trans h, h5⟩
theorem lst_row {w : World} {a : Option Addr} {len cap : Nat} {zs : List Int} (h : Buf.IsRow .i64 w a len cap zs) : Lst w (.slice a len cap) (zs.take len) ∧ (zs.take len).length = len := by
  rcases h with ⟨rfl, rfl, rfl, rfl⟩ | ⟨x, rfl, h1, h2, h3, h4, h5⟩
  · exact ⟨.inl ⟨rfl, _, _, rfl⟩, rfl⟩
  · have hl : (zs.take len).length = len := by rw [List.length_take]; omega
    refine ⟨?_, hl⟩
    by_cases h0 : len = 0
    · subst h0; exact .inl ⟨rfl, _, _, rfl⟩
    · have hc := h4 0 (by omega)
      have hs : x.spot = none := by
        unfold World.cell? Addr.add at hc
        simp only [if_true] at hc
        cases hsp : x.spot with
        | none => rfl
        | some q =>
          rw [hsp] at hc
          split at hc <;> simp at hc
      obtain ⟨b, o, sp⟩ := x
      simp only at hs
      subst hs
      have hb : b < w.heap.size := Nat.lt_of_not_le fun hh => by
        unfold World.cell? Addr.add at hc
        simp only [if_true] at hc
        rw [Array.getElem?_eq_none hh] at hc; cases hc
      refine .inr ⟨b, o, cap, by rw [hl], by omega, hb, fun j hj => ?_⟩
      have hj2 : j < zs.length := by omega
      have := h4 j hj2
      rw [Addr.add_lit] at this
      rw [this, List.getElem_take, List.getD_eq_getElem?_getD, List.getElem?_eq_getElem hj2]; rfl
theorem lst_own {w : World} {B : Nat} {v : Value} {c : List Int} (h : w.ownsRow B 3 1 v c.length (c.map fun z => .int .i64 z)) : Lst w v c := by
  rcases id h.2 with ⟨rfl, h0⟩ | ⟨b, cc, cur, rfl, hb, hc, hn, hm, hs, ht⟩
  · exact .inl ⟨List.eq_nil_of_length_eq_zero h0, none, 0, rfl⟩
  · refine .inr ⟨b, 0, cc, rfl, hn, (Array.getElem?_eq_some_iff.1 hc).1, fun j hj => ?_⟩
    have := World.ownsRow.cells (g := b) h rfl j (.int .i64 c[j]) (by rw [List.getElem?_map, List.getElem?_eq_getElem hj]; rfl)
    rwa [Addr.add_lit] at this
theorem lst_blk {w : World} {b : Nat} {c : List Int} {cs : Array Value} (h : w.heap[b]? = some (.cells cs 3 (0, 0))) (hc : cs = (c.map fun z => Value.int .i64 z).toArray) : Lst w (.slice (some ⟨b, 0, none⟩) c.length c.length) c := by
  subst hc
  refine .inr ⟨b, 0, c.length, rfl, Nat.le_refl _, (Array.getElem?_eq_some_iff.1 h).1, fun j hj => ?_⟩
  rw [Nat.zero_add]
  refine (cell_of_row w b j _ _ _ h).trans ?_
  simp [hj]
set_option maxHeartbeats 16000000 in
set_option maxRecDepth 100000 in
noncomputable def ck_root : (P_pw1 : Prop) ×' (Ckp P_pw1 → ∀ (a0 : Option Addr) (len0 cap0 : Nat) (z0 : List Int) (aL : Option Addr) (nL cL : Nat) (zL : List Int) (r1 r2 r3 r4 r5 r6 r7 r8 r9 r10 r11 r12 : Int) (w : World) (w0 : Buf.IsRow .i64 w a0 len0 cap0 z0) (w1 : Buf.IsRow .i64 w aL nL cL zL), Calls Try.prog 3 #[.slice a0 len0 cap0, .slice aL nL cL, .agg #[.int .i64 r1, .int .i64 r2, .int .i64 r3, .int .i64 r4, .int .i64 r5, .int .i64 r6, .int .i64 r7, .int .i64 r8, .int .i64 r9, .int .i64 r10, .int .i64 r11, .int .i64 r12]] w fun e w' => e = .returned (.bool true) ∧ Below w.heap.size w w') := by
  apply PSigma.mk
  case snd =>
    intro hck_pw1
    intro a0 len0 cap0 z0 aL nL cL zL r1 r2 r3 r4 r5 r6
      r7 r8 r9 r10 r11 r12 w w0 w1
    have AW := Lib.hid Loc.Prf.awake29_any
    obtain ⟨wa, hwa⟩ : ∃ z, z = w.alloc (.cells #[.int .i64 r1, .int .i64 r2, .int .i64 r3, .int .i64 r4, .int .i64 r5, .int .i64 r6, .int .i64 r7, .int .i64 r8, .int .i64 r9, .int .i64 r10, .int .i64 r11, .int .i64 r12] 28) := ⟨_, rfl⟩
    have Na : Below w.heap.size w wa := by rw [hwa]; exact Mis.new_block _
    have K5 := Lib.hid (show wa.heap[w.heap.size]? = some (.cells #[.int .i64 r1, .int .i64 r2, .int .i64 r3, .int .i64 r4, .int .i64 r5, .int .i64 r6, .int .i64 r7, .int .i64 r8, .int .i64 r9, .int .i64 r10, .int .i64 r11, .int .i64 r12] 28 (0, 0)) by rw [hwa]; exact heap_alloc_new w _)
    obtain ⟨p5, hp5⟩ : ∃ z, z = w.heap.size := ⟨_, rfl⟩
    rw [← hp5] at K5
    have w0a := row_keep w0 Na
    have w1a := row_keep w1 Na
    have h5 : p5 < wa.heap.size := (Array.getElem?_eq_some_iff.1 K5.out).1
    replace Na := Lib.hid Na
    clear w0 w1
    go_enter Try.func3, Try.ntmps3
    go_upto_region 1 with fail
    rw [← hwa, ← hp5]
    clear hwa hp5
    by_cases hlen : nL > 200
    · have hi : (nL : Int) > 200 := by omega
      go_wp2_with (go_at_call 4; refine (AW.out _).mono ?_; rintro e w2 ⟨rfl, b2⟩)
      go_ret
      exact ⟨rfl, Buf.then_ Na.out b2⟩
    · have hi : ¬ (nL : Int) > 200 := by omega
      have LS := Lib.hid (lst_row w1a)
      clear w1a
      go_wp2_with fail
      refine (Src.new_any a0 len0 cap0 z0 wa w0a).mono ?_
      rintro e0 wb ⟨rfl, m, hd⟩
      have L0 := Lib.hid (Src.Left.refl hd)
      have nb := hd.bel
      clear hd w0a
      obtain ⟨g, hg⟩ : ∃ z, z = wa.heap.size := ⟨_, rfl⟩
      rw [← hg] at L0 ⊢
      have gw : g < wb.heap.size := L0.out.di.lt
      have K5b := Lib.hid (Mis.hb nb K5.out)
      have ne5 : p5 ≠ g := by omega
      have HG := Lib.hid hg
      clear K5 hg
      go_wp2_with fail
      refine (Mis.problem_any 3 5 (by decide) (by decide) (by decide) (by decide) L0.out.di).mono ?_
      rintro e0 w2 ⟨⟨A1, A2, A3, D1, D2, D3, s, b1, b2, n, c1, c2, lo, hi', gp, cpp, L, cp, nl, rfl, hnl, P⟩, hl⟩
      have s2 : g < w2.heap.size := (L0.out.trans hl).di.lt
      replace L0 := Lib.hid (L0.out.trans hl)
      have K5c := Lib.hid (hl.blk K5b.out ne5)
      have PG := Lib.hid P
      replace hnl := Lib.hid hnl
      clear hl P K5b nb
      go_upto_region 5 with ((with_reducible refine Mid.str 36 (.tmp 8) (.tmp 31) w2.heap.size 36 #[.int .i64 0, .int .i64 0, .int .i64 0, .int .i64 0, .int .i64 0, .int .i64 0, .int .i64 0, .slice none 0 0, .slice none 0 0, .slice none 0 0, .int .i64 0] #[.int .i64 A1, .int .i64 A2, .int .i64 A3, .int .i64 D1, .int .i64 D2, .int .i64 D3, .int .i64 s, .slice (some ⟨b1, 0, none⟩) n c1, .slice (some ⟨b2, 0, none⟩) n c2, .slice (some ⟨gp, 0, none⟩) nl cpp, .int .i64 cp] (heap_alloc_new w2 _) ?_ ?_ ?_ ?_ ?_ ?_ ?_ ?_); (· rfl); (· rfl); (· first | rfl | simp [Act.eval]); (· first | rfl | simp [Act.eval]); (· kernel_rfl); (· rfl); (· simp [Value.oneCell']))
      try simp only [Act.put]
      have N3 : Below w2.heap.size w2 ((w2.alloc (.cells #[.int .i64 0, .int .i64 0, .int .i64 0, .int .i64 0, .int .i64 0, .int .i64 0, .int .i64 0, .slice none 0 0, .slice none 0 0, .slice none 0 0, .int .i64 0] 36)).setRow w2.heap.size #[.int .i64 A1, .int .i64 A2, .int .i64 A3, .int .i64 D1, .int .i64 D2, .int .i64 D3, .int .i64 s, .slice (some ⟨b1, 0, none⟩) n c1, .slice (some ⟨b2, 0, none⟩) n c2, .slice (some ⟨gp, 0, none⟩) nl cpp, .int .i64 cp]) := Mid.below_row (Mis.new_block _) _ _ (Nat.le_refl _)
      have K3 := Lib.hid (show ((w2.alloc (.cells #[.int .i64 0, .int .i64 0, .int .i64 0, .int .i64 0, .int .i64 0, .int .i64 0, .int .i64 0, .slice none 0 0, .slice none 0 0, .slice none 0 0, .int .i64 0] 36)).setRow w2.heap.size #[.int .i64 A1, .int .i64 A2, .int .i64 A3, .int .i64 D1, .int .i64 D2, .int .i64 D3, .int .i64 s, .slice (some ⟨b1, 0, none⟩) n c1, .slice (some ⟨b2, 0, none⟩) n c2, .slice (some ⟨gp, 0, none⟩) nl cpp, .int .i64 cp]).heap[w2.heap.size]? = some (.cells #[.int .i64 A1, .int .i64 A2, .int .i64 A3, .int .i64 D1, .int .i64 D2, .int .i64 D3, .int .i64 s, .slice (some ⟨b1, 0, none⟩) n c1, .slice (some ⟨b2, 0, none⟩) n c2, .slice (some ⟨gp, 0, none⟩) nl cpp, .int .i64 cp] 36 (0, 0)) from setRow_heap _ _ _ _ _ _ (heap_alloc_new w2 _))
      obtain ⟨w3, hw3⟩ : ∃ z, z = (w2.alloc (.cells #[.int .i64 0, .int .i64 0, .int .i64 0, .int .i64 0, .int .i64 0, .int .i64 0, .int .i64 0, .slice none 0 0, .slice none 0 0, .slice none 0 0, .int .i64 0] 36)).setRow w2.heap.size #[.int .i64 A1, .int .i64 A2, .int .i64 A3, .int .i64 D1, .int .i64 D2, .int .i64 D3, .int .i64 s, .slice (some ⟨b1, 0, none⟩) n c1, .slice (some ⟨b2, 0, none⟩) n c2, .slice (some ⟨gp, 0, none⟩) nl cpp, .int .i64 cp] := ⟨_, rfl⟩
      rw [← hw3] at N3 K3 ⊢
      obtain ⟨p8, hp8⟩ : ∃ z, z = w2.heap.size := ⟨_, rfl⟩
      have ne8 : p8 ≠ g := by omega
      rw [← hp8] at K3 ⊢
      have W3 := Lib.hid (PG.out.tv.below N3)
      have R3 := Lib.hid (PG.out.pr.below N3)
      have L3 := Lib.hid (L0.out.below N3)
      have K5d := Lib.hid (Mis.hb N3 K5c.out)
      have gb1 : b1 ≠ g := by have := PG.out.m1; have := HG.out; omega
      have gb2 : b2 ≠ g := by have := PG.out.m2; have := HG.out; omega
      have gbp : gp ≠ g := by have := PG.out.gB; have := HG.out; omega
      clear hw3 hp8 N3 L0 s2 K5c
      go_wp2_with fail
      refine (Src.n_any 60 L3.out.di (by decide) (by decide)).mono ?_
      rintro e0 w4 ⟨⟨tol, rfl, t0, t9⟩, l4⟩
      have L4 := Lib.hid (L3.out.trans l4)
      have K8 := Lib.hid (l4.blk K3.out ne8)
      have K5e := Lib.hid (l4.blk K5d.out ne5)
      have W4 : Hid (Bound.Wide w4 s b1 b2 n lo hi') := Lib.hid ⟨Mis.tv_kept W3.out.tv (l4.far.block b1 W3.out.tv.e1 (by simpa using gb1)) (l4.far.block b2 W3.out.tv.e2 (by simpa using gb2)) l4.far.size, W3.out.re⟩
      have R4 := Lib.hid (R3.out.kept (l4.far.block gp R3.out.1 (by simpa using gbp)) l4.far.size)
      clear l4 K3 K5d W3 R3 L3
      have hR := PG.out.rg (by decide)
      have n9 : L.length ≤ 64 := by have := PG.out.n9; omega
      have c9 : cp ≤ 2000 := by have := PG.out.c9; omega
      have rv : Sb ⟨A1, A2, A3, D1, D2, D3⟩ ⟨A1, A2, A3, D1, D2, D3⟩ := ⟨Int.le_refl _, Int.le_refl _, Int.le_refl _, Int.le_refl _, Int.le_refl _, Int.le_refl _, hR.bv.x, hR.bv.y, hR.bv.z⟩
      have hcp : nl ≤ cpp := by have := PG.out.le; rw [hnl.out]; exact this
      have few : 2 * np ⟨A1, A2, A3, D1, D2, D3⟩ - 1 ≤ 127 := by
        have x := hR.bv.x; have y := hR.bv.y; have z := hR.bv.z
        have s1 := PG.out.s1; have s2 := PG.out.s2; have s3 := PG.out.s3
        have a : (D1 - A1 + 1) * (D2 - A2 + 1) ≤ 4 * 4 := Int.mul_le_mul (by omega) (by omega) (by omega) (by omega)
        have a0 : 0 ≤ (D1 - A1 + 1) * (D2 - A2 + 1) := Int.mul_nonneg (by omega) (by omega)
        have b : (D1 - A1 + 1) * (D2 - A2 + 1) * (D3 - A3 + 1) ≤ 16 * 4 := Int.mul_le_mul (by omega) (by omega) (by omega) (by omega)
        show 2 * ((D1 - A1 + 1) * (D2 - A2 + 1) * (D3 - A3 + 1)) - 1 ≤ 127
        omega
      -- what holds in any world that the source alone has changed
      have TW : Hid (∀ w', Src.Left wa w4 w' g a0 m cap0 z0 → Bound.Wide w' s b1 b2 n lo hi' ∧ Mis.PhR w' gp L) := Lib.hid fun w' l => ⟨⟨Mis.tv_kept W4.out.tv (l.far.block b1 W4.out.tv.e1 (by simpa using gb1)) (l.far.block b2 W4.out.tv.e2 (by simpa using gb2)) l.far.size, W4.out.re⟩, R4.out.kept (l.far.block gp R4.out.1 (by simpa using gbp)) l.far.size⟩
      obtain ⟨SP, hSP, hSR⟩ := spl_both (R := ⟨A1, A2, A3, D1, D2, D3⟩) hR.bv
      have PP : Hid (∀ w', Src.Left wa w4 w' g a0 m cap0 z0 → Pr w' ⟨Fm s lo hi' cp L, Gm s lo hi' cp L, SP⟩ ⟨A1, A2, A3, D1, D2, D3⟩ ⟨s, b1, n, c1, b2, n, c2, gp, nl, cpp, cp⟩) := Lib.hid fun w' l => pr_of (R := ⟨A1, A2, A3, D1, D2, D3⟩) hR (TW.out w' l).1 PG.out.ph.s PG.out.n1 n9 PG.out.c0 c9 (TW.out w' l).2 hnl.out hcp c1 c2 hSP (by omega)
      have RR : Hid (∀ w', Src.Left wa w4 w' g a0 m cap0 z0 → Rr w' ⟨Fm s lo hi' cp L, Gm s lo hi' cp L, SP⟩ ⟨A1, A2, A3, D1, D2, D3⟩ ⟨s, b1, n, c1, b2, n, c2, gp, nl, cpp, cp⟩) := Lib.hid fun w' l => rr_of (R := ⟨A1, A2, A3, D1, D2, D3⟩) hR (TW.out w' l).1 PG.out.ph.s PG.out.n1 n9 PG.out.c0 c9 (TW.out w' l).2 hnl.out hcp c1 c2 (PP.out w' l) hSR
      have HM := Lib.hid (mono_of (R := ⟨A1, A2, A3, D1, D2, D3⟩) hR W4.out PG.out.ph.s PG.out.n1 PG.out.c0)
      have BVR := Lib.hid hR.bv
      obtain ⟨X1, X2, X3⟩ : D1 ≤ A1 + 3 ∧ D2 ≤ A2 + 3 ∧ D3 ≤ A3 + 3 := ⟨PG.out.s1, PG.out.s2, PG.out.s3⟩
      obtain ⟨Ak, hAk⟩ : ∃ z : Loc.Ask, z = ⟨Fm s lo hi' cp L, Gm s lo hi' cp L, SP⟩ := ⟨_, rfl⟩
      have HM' : Hid (∀ B p, Sb ⟨A1, A2, A3, D1, D2, D3⟩ B → inB B p → Ak.F B ≤ (Ak.G p).2) := Lib.hid (by rw [hAk]; exact HM.out)
      rw [← hAk] at PP RR
      replace few := Lib.hid few
      have RL : Hid (∀ w', Src.Left wa w4 w' g a0 m cap0 z0 → ∀ u : Int, 0 ≤ u → u ≤ 1000 → ∃ y1 y2 y3 y4 y5 y6 y7 y8 y9 y10 y11 y12 er : Int, Calls Try.prog 8 #[.agg #[.int .i64 A1, .int .i64 A2, .int .i64 A3, .int .i64 D1, .int .i64 D2, .int .i64 D3, .int .i64 s, .slice (some ⟨b1, 0, none⟩) n c1, .slice (some ⟨b2, 0, none⟩) n c2, .slice (some ⟨gp, 0, none⟩) nl cpp, .int .i64 cp], .int .i64 u] w' fun e w'' => e = .returned (.tuple #[.agg #[.int .i64 y1, .int .i64 y2, .int .i64 y3, .int .i64 y4, .int .i64 y5, .int .i64 y6, .int .i64 y7, .int .i64 y8, .int .i64 y9, .int .i64 y10, .int .i64 y11, .int .i64 y12], .int .i64 er]) ∧ Below w'.heap.size w' w'') := Lib.hid fun w' l u u0 u9 => by
        have SE := fun w'' h'' => search_any w'' Ak ⟨A1, A2, A3, D1, D2, D3⟩ ⟨s, b1, n, c1, b2, n, c2, gp, nl, cpp, cp⟩ ((RR.out w' l).below h'') u u0 (by omega)
        obtain ⟨FN, hFN⟩ : ∃ FN, FN = run Ak u 3000 (add Ak _root_.Go.Proofs.Ytldgihlhioeipaa.Loc.start ⟨A1, A2, A3, D1, D2, D3⟩) := ⟨_, rfl⟩
        rw [← hFN] at SE
        cases he : ended u FN with
        | true =>
          have e : RSaid FN u = #[.agg (lrow FN (lowF FN.m FN.op) (areaF FN.m (pb (FN.x, FN.y, FN.z)) FN.op)).toArray, .int .i64 FN.tk, .int .i64 0] := by unfold RSaid; rw [if_pos he]
          rw [e] at SE
          exact ⟨_, _, _, _, _, _, _, _, _, _, _, _, 0, rlocate_row (R := ⟨A1, A2, A3, D1, D2, D3⟩) (q := ⟨s, b1, n, c1, b2, n, c2, gp, nl, cpp, cp⟩) u _ _ _ _ _ _ _ _ _ _ _ _ FN.tk 0 SE⟩
        | false =>
          have e : RSaid FN u = #[.agg #[.int .i64 0, .int .i64 0, .int .i64 0, .int .i64 0, .int .i64 0, .int .i64 0, .int .i64 0, .int .i64 0, .int .i64 0, .int .i64 0, .int .i64 0, .int .i64 0], .int .i64 0, .int .i64 25] := by unfold RSaid; rw [if_neg (by rw [he]; decide)]
          rw [e] at SE
          exact ⟨0, 0, 0, 0, 0, 0, 0, 0, 0, 0, 0, 0, 25, rlocate_row (R := ⟨A1, A2, A3, D1, D2, D3⟩) (q := ⟨s, b1, n, c1, b2, n, c2, gp, nl, cpp, cp⟩) u 0 0 0 0 0 0 0 0 0 0 0 0 0 25 SE⟩
      have RA : Hid (∀ w', Src.Left wa w4 w' g a0 m cap0 z0 → ∀ p, inB ⟨A1, A2, A3, D1, D2, D3⟩ p → ∃ t m : Int, Calls Try.prog 26 #[.agg #[.int .i64 A1, .int .i64 A2, .int .i64 A3, .int .i64 D1, .int .i64 D2, .int .i64 D3, .int .i64 s, .slice (some ⟨b1, 0, none⟩) n c1, .slice (some ⟨b2, 0, none⟩) n c2, .slice (some ⟨gp, 0, none⟩) nl cpp, .int .i64 cp], .agg #[.int .i64 p.1, .int .i64 p.2.1, .int .i64 p.2.2]] w' fun e w'' => e = .returned (.tuple #[.int .i64 t, .int .i64 m, .int .i64 0]) ∧ Below w'.heap.size w' w'') := Lib.hid fun w' l p hp => ⟨_, _, (RR.out w' l).at_ w' (Below.refl _ _) p hp⟩
      clear hR n9 c9 rv hcp PG TW W4 R4 hSP hSR hAk RR HM gb1 gb2 gbp hnl
      rename_i pw1i0 pw1i1 pw1i2 pw1i3 pw1i4
      revert a0 len0 cap0 z0 aL nL cL zL r1 r2 r3 r4 r5 r6 r7 r8 r9 r10 r11 r12 w AW wa p5 h5 Na pw1i0 hlen LS hi wb m g gw ne5 HG w2 A1 A2 A3 D1 D2 D3 s b1 b2 n c1 c2 lo hi' gp cpp L cp nl pw1i1 pw1i2 w3 p8 ne8 pw1i3 pw1i4 w4 tol t0 t9 L4 K8 K5e SP BVR X1 X2 X3 Ak PP HM' few RL RA
      exact hck_pw1.out
set_option maxHeartbeats 16000000 in
set_option maxRecDepth 100000 in
noncomputable def ck_pw1 : (P_pw2 : Prop) ×' (Ckp P_pw2 → ck_root.1) := by
  apply PSigma.mk
  case snd =>
    intro hck_pw2
    intro a0 len0 cap0 z0 aL nL cL zL r1 r2 r3 r4 r5 r6
      r7 r8 r9 r10 r11 r12 w AW wa p5 h5 Na pw1i0 hlen
      LS hi wb m g gw ne5 HG w2 A1 A2 A3 D1 D2
      D3 s b1 b2 n c1 c2 lo hi' gp cpp L cp nl
      pw1i1 pw1i2 w3 p8 ne8 pw1i3 pw1i4 w4 tol t0 t9 L4 K8 K5e
      SP BVR X1 X2 X3 Ak PP HM' few RL RA
    go_upto_region 6 with fail
    go_cut [10, 11] (fun u10 u11 wx => ∃ (p10 : Nat) (er y1 y2 y3 y4 y5 y6 y7 y8 y9 y10 y11 y12 : Int), u10 = .pointer (some ⟨p10, 0, none⟩) ∧ u11 = .int .i64 er ∧ Hid (wx.heap[p10]? = some (.cells #[.int .i64 y1, .int .i64 y2, .int .i64 y3, .int .i64 y4, .int .i64 y5, .int .i64 y6, .int .i64 y7, .int .i64 y8, .int .i64 y9, .int .i64 y10, .int .i64 y11, .int .i64 y12] 28 (0, 0))) ∧ Hid (Src.Left wa w4 wx g a0 m cap0 z0) ∧ p10 ≠ g)
    case first =>
      refine wp_region_noPanic ?_
      refine wp_region_any (by kernel_rfl) ?_
      refine Inv.wpAny_inv2 (fun k => k == 8 || k == 9) 6 99 [35, 36, 37, 38, 34, 39, 40, 10] (fun w' => Src.Left wa w4 w' g a0 m cap0 z0) (fun _ w1 w2 => Src.Left wa w1 w2 g a0 m cap0 z0) (fun k => ([fun v_ w_ => v_ = .agg #[.int .i64 A1, .int .i64 A2, .int .i64 A3, .int .i64 D1, .int .i64 D2, .int .i64 D3, .int .i64 s, .slice (some ⟨b1, 0, none⟩) n c1, .slice (some ⟨b2, 0, none⟩) n c2, .slice (some ⟨gp, 0, none⟩) nl cpp, .int .i64 cp], fun v_ w_ => v_ = .pointer (some ⟨g, 0, none⟩), fun v_ w_ => ∃ u : Int, v_ = .int .i64 u ∧ 0 ≤ u ∧ u < 60, fun v_ w_ => ∃ y1 y2 y3 y4 y5 y6 y7 y8 y9 y10 y11 y12 er : Int, v_ = .tuple #[.agg #[.int .i64 y1, .int .i64 y2, .int .i64 y3, .int .i64 y4, .int .i64 y5, .int .i64 y6, .int .i64 y7, .int .i64 y8, .int .i64 y9, .int .i64 y10, .int .i64 y11, .int .i64 y12], .int .i64 er], fun v_ w_ => ∃ y1 y2 y3 y4 y5 y6 y7 y8 y9 y10 y11 y12 er : Int, v_ = .tuple #[.agg #[.int .i64 y1, .int .i64 y2, .int .i64 y3, .int .i64 y4, .int .i64 y5, .int .i64 y6, .int .i64 y7, .int .i64 y8, .int .i64 y9, .int .i64 y10, .int .i64 y11, .int .i64 y12], .int .i64 er], fun v_ w_ => ∃ y1 y2 y3 y4 y5 y6 y7 y8 y9 y10 y11 y12 : Int, v_ = .agg #[.int .i64 y1, .int .i64 y2, .int .i64 y3, .int .i64 y4, .int .i64 y5, .int .i64 y6, .int .i64 y7, .int .i64 y8, .int .i64 y9, .int .i64 y10, .int .i64 y11, .int .i64 y12], fun v_ w_ => ∃ er : Int, v_ = .int .i64 er, fun v_ w_ => ∃ k : Nat, v_ = .pointer (some ⟨k, 0, none⟩) ∧ w_.heap[k]? = some (.cells #[.int .i64 0, .int .i64 0, .int .i64 0, .int .i64 0, .int .i64 0, .int .i64 0, .int .i64 0, .int .i64 0, .int .i64 0, .int .i64 0, .int .i64 0, .int .i64 0] 28 (0, 0)) ∧ k ≠ g ∧ w4.heap.size ≤ k, fun v_ w_ => True, fun v_ w_ => True] : List (Value → World → Prop)).getD k (fun _ _ => True)) _ (fun σ => by simp only [Inv.putAll, List.foldl_cons, List.foldl_nil, Act.put, List.setIfInBounds_toArray, List.set_cons_zero, List.set_cons_succ]; rfl) (by kernel_rfl) (by kernel_rfl) (by decide) ?_ ((Src.Left.refl L4.out.di).drew) ?_ ?_ (fun b1 b2 => cond b1 2 3) (fun b1 b2 => #[true, true, true, true, true, true, b1, true, false, false]) (by intro b1 b2; cases b1 <;> cases b2 <;> kernel_rfl) (by intro b1 b2; cases b1 <;> cases b2 <;> kernel_rfl) (by exact ⟨rfl, rfl⟩) ?_
      · intro j k v w1 w2 hjk hv hr
        rcases k with _ | k
        · exact hv
        rcases k with _ | k
        · exact hv
        rcases k with _ | k
        · exact hv
        rcases k with _ | k
        · exact hv
        rcases k with _ | k
        · exact hv
        rcases k with _ | k
        · exact hv
        rcases k with _ | k
        · exact hv
        rcases k with _ | k
        · exact by obtain ⟨k_, h1_, h2_, h3_, h4_⟩ := hv; exact ⟨k_, h1_, hr.blk h2_ h3_, h3_, h4_⟩
        rcases k with _ | k
        · exact hv
        rcases k with _ | k
        · exact hv
        · exact hv
      · intro k t hl hd
        rcases k with _ | k
        · exact absurd hl (by decide +kernel)
        rcases k with _ | k
        · exact absurd hl (by decide +kernel)
        rcases k with _ | k
        · exact absurd hl (by decide +kernel)
        rcases k with _ | k
        · exact absurd hl (by decide +kernel)
        rcases k with _ | k
        · exact absurd hl (by decide +kernel)
        rcases k with _ | k
        · exact absurd hl (by decide +kernel)
        rcases k with _ | k
        · exact absurd hl (by decide +kernel)
        rcases k with _ | k
        · exact absurd hl (by decide +kernel)
        rcases k with _ | k
        · exact absurd hl (by decide +kernel)
        rcases k with _ | k
        · exact absurd hl (by decide +kernel)
        · simp at hd
      · show Inv.Steps _ _ _ _ _ _ _ _ [0, 1, 2, 3, 4, 5, 6, 7]
        refine Inv.Steps.go (by decide) (by rfl) (fun σ wx hw hd K hK => ?_) ?_
        · simp only [List.getElem_toArray, List.getElem_cons_zero, List.getElem_cons_succ, Act.put, List.setIfInBounds_toArray, List.set_cons_zero, List.set_cons_succ] at hK ⊢
          refine wp_load_row 36 (.tmp 8) rfl p8 rfl 36 #[.int .i64 A1, .int .i64 A2, .int .i64 A3, .int .i64 D1, .int .i64 D2, .int .i64 D3, .int .i64 s, .slice (some ⟨b1, 0, none⟩) n c1, .slice (some ⟨b2, 0, none⟩) n c2, .slice (some ⟨gp, 0, none⟩) nl cpp, .int .i64 cp] (0, 0) _ (hw.blk K8.out ne8) rfl rfl rfl ?_
          simp only [Act.put, List.setIfInBounds_toArray, List.set_cons_zero, List.set_cons_succ]
          exact hK.out _ _ hw (Src.Left.refl hw.di) (rfl)
        refine Inv.Steps.go (by decide) (by rfl) (fun σ wx hw hd K hK => ?_) ?_
        · simp only [List.getElem_toArray, List.getElem_cons_zero, List.getElem_cons_succ, Act.put, List.setIfInBounds_toArray, List.set_cons_zero, List.set_cons_succ] at hK ⊢
          go_simp
          exact hK.out _ _ hw (Src.Left.refl hw.di) (rfl)
        refine Inv.Steps.go (by decide) (by rfl) (fun σ wx hw hd K hK => ?_) ?_
        · obtain e36 : (σ 36) = .pointer (some ⟨g, 0, none⟩) := hd 1 (some 36) (by kernel_rfl) (by rfl)
          simp only [List.getElem_toArray, List.getElem_cons_zero, List.getElem_cons_succ, Act.put, List.setIfInBounds_toArray, List.set_cons_zero, List.set_cons_succ, e36] at hK ⊢
          go_simp
          go_at_call 7
          refine (Src.n_any 60 hw.di (by decide) (by decide)).mono ?_
          rintro e_ w_ ⟨⟨u_, rfl, h0_, h1_⟩, hl_⟩
          dsimp only
          exact hK.out _ _ (hw.trans hl_) hl_ (⟨_, rfl, h0_, h1_⟩)
        refine Inv.Steps.go (by decide) (by rfl) (fun σ wx hw hd K hK => ?_) ?_
        · obtain e35 : (σ 35) = .agg #[.int .i64 A1, .int .i64 A2, .int .i64 A3, .int .i64 D1, .int .i64 D2, .int .i64 D3, .int .i64 s, .slice (some ⟨b1, 0, none⟩) n c1, .slice (some ⟨b2, 0, none⟩) n c2, .slice (some ⟨gp, 0, none⟩) nl cpp, .int .i64 cp] := hd 0 (some 35) (by kernel_rfl) (by rfl)
          obtain ⟨u37, e37, u370, u371⟩ : ∃ u : Int, (σ 37) = .int .i64 u ∧ 0 ≤ u ∧ u < 60 := hd 2 (some 37) (by kernel_rfl) (by rfl)
          simp only [List.getElem_toArray, List.getElem_cons_zero, List.getElem_cons_succ, Act.put, List.setIfInBounds_toArray, List.set_cons_zero, List.set_cons_succ, e35, e37] at hK ⊢
          go_simp
          go_at_call 8
          obtain ⟨y1, y2, y3, y4, y5, y6, y7, y8, y9, y10, y11, y12, er, RC⟩ := RL.out wx hw u37 u370 (by omega)
          refine RC.mono ?_
          rintro e_ w_ ⟨rfl, hb_⟩
          dsimp only
          exact hK.out _ _ (hw.below hb_) ((Src.Left.refl hw.di).below hb_) (⟨_, _, _, _, _, _, _, _, _, _, _, _, _, rfl⟩)
        refine Inv.Steps.go (by decide) (by rfl) (fun σ wx hw hd K hK => ?_) ?_
        · obtain ⟨y1, y2, y3, y4, y5, y6, y7, y8, y9, y10, y11, y12, er, e38⟩ : ∃ y1 y2 y3 y4 y5 y6 y7 y8 y9 y10 y11 y12 er : Int, (σ 38) = .tuple #[.agg #[.int .i64 y1, .int .i64 y2, .int .i64 y3, .int .i64 y4, .int .i64 y5, .int .i64 y6, .int .i64 y7, .int .i64 y8, .int .i64 y9, .int .i64 y10, .int .i64 y11, .int .i64 y12], .int .i64 er] := hd 3 (some 38) (by kernel_rfl) (by rfl)
          simp only [List.getElem_toArray, List.getElem_cons_zero, List.getElem_cons_succ, Act.put, List.setIfInBounds_toArray, List.set_cons_zero, List.set_cons_succ, e38] at hK ⊢
          go_simp
          exact hK.out _ _ hw (Src.Left.refl hw.di) (⟨_, _, _, _, _, _, _, _, _, _, _, _, _, rfl⟩)
        refine Inv.Steps.go (by decide) (by rfl) (fun σ wx hw hd K hK => ?_) ?_
        · obtain ⟨y1, y2, y3, y4, y5, y6, y7, y8, y9, y10, y11, y12, er, e34⟩ : ∃ y1 y2 y3 y4 y5 y6 y7 y8 y9 y10 y11 y12 er : Int, (σ 34) = .tuple #[.agg #[.int .i64 y1, .int .i64 y2, .int .i64 y3, .int .i64 y4, .int .i64 y5, .int .i64 y6, .int .i64 y7, .int .i64 y8, .int .i64 y9, .int .i64 y10, .int .i64 y11, .int .i64 y12], .int .i64 er] := hd 4 (some 34) (by kernel_rfl) (by rfl)
          simp only [List.getElem_toArray, List.getElem_cons_zero, List.getElem_cons_succ, Act.put, List.setIfInBounds_toArray, List.set_cons_zero, List.set_cons_succ, e34] at hK ⊢
          go_simp
          exact hK.out _ _ hw (Src.Left.refl hw.di) (⟨_, _, _, _, _, _, _, _, _, _, _, _, rfl⟩)
        refine Inv.Steps.go (by decide) (by rfl) (fun σ wx hw hd K hK => ?_) ?_
        · obtain ⟨y1, y2, y3, y4, y5, y6, y7, y8, y9, y10, y11, y12, er, e34⟩ : ∃ y1 y2 y3 y4 y5 y6 y7 y8 y9 y10 y11 y12 er : Int, (σ 34) = .tuple #[.agg #[.int .i64 y1, .int .i64 y2, .int .i64 y3, .int .i64 y4, .int .i64 y5, .int .i64 y6, .int .i64 y7, .int .i64 y8, .int .i64 y9, .int .i64 y10, .int .i64 y11, .int .i64 y12], .int .i64 er] := hd 4 (some 34) (by kernel_rfl) (by rfl)
          simp only [List.getElem_toArray, List.getElem_cons_zero, List.getElem_cons_succ, Act.put, List.setIfInBounds_toArray, List.set_cons_zero, List.set_cons_succ, e34] at hK ⊢
          go_simp
          exact hK.out _ _ hw (Src.Left.refl hw.di) (⟨_, rfl⟩)
        refine Inv.Steps.go (by decide) (by rfl) (fun σ wx hw hd K hK => ?_) ?_
        · simp only [List.getElem_toArray, List.getElem_cons_zero, List.getElem_cons_succ, Act.put, List.setIfInBounds_toArray, List.set_cons_zero, List.set_cons_succ] at hK ⊢
          have hn_ := heap_alloc_new wx (.cells #[.int .i64 0, .int .i64 0, .int .i64 0, .int .i64 0, .int .i64 0, .int .i64 0, .int .i64 0, .int .i64 0, .int .i64 0, .int .i64 0, .int .i64 0, .int .i64 0] 28)
          go_simp
          exact hK.out _ _ (hw.below (Mis.new_block _)) ((Src.Left.refl hw.di).below (Mis.new_block _)) (⟨_, rfl, hn_, by have := hw.di.lt; omega, hw.far.size⟩)
        exact Inv.Steps.nil
      · intro b1 b2 σ wx hw hd
        cases b1
        · obtain ⟨y1, y2, y3, y4, y5, y6, y7, y8, y9, y10, y11, y12, e39⟩ : ∃ y1 y2 y3 y4 y5 y6 y7 y8 y9 y10 y11 y12 : Int, (σ 39) = .agg #[.int .i64 y1, .int .i64 y2, .int .i64 y3, .int .i64 y4, .int .i64 y5, .int .i64 y6, .int .i64 y7, .int .i64 y8, .int .i64 y9, .int .i64 y10, .int .i64 y11, .int .i64 y12] := hd 5 (some 39) (by kernel_rfl) (by decide) (fun h => absurd h (by decide)) (by rfl)
          obtain ⟨p10, e10, k10, n10, g10⟩ : ∃ k : Nat, (σ 10) = .pointer (some ⟨k, 0, none⟩) ∧ wx.heap[k]? = some (.cells #[.int .i64 0, .int .i64 0, .int .i64 0, .int .i64 0, .int .i64 0, .int .i64 0, .int .i64 0, .int .i64 0, .int .i64 0, .int .i64 0, .int .i64 0, .int .i64 0] 28 (0, 0)) ∧ k ≠ g ∧ w4.heap.size ≤ k := hd 7 (some 10) (by kernel_rfl) (by decide) (fun h => absurd h (by decide)) (by rfl)
          obtain ⟨v1, v2, v3, v4, v5, v6, v7, v8, v9, v10, v11, v12, er, e34⟩ : ∃ y1 y2 y3 y4 y5 y6 y7 y8 y9 y10 y11 y12 er : Int, (σ 34) = .tuple #[.agg #[.int .i64 y1, .int .i64 y2, .int .i64 y3, .int .i64 y4, .int .i64 y5, .int .i64 y6, .int .i64 y7, .int .i64 y8, .int .i64 y9, .int .i64 y10, .int .i64 y11, .int .i64 y12], .int .i64 er] := hd 4 (some 34) (by kernel_rfl) (by decide) (fun h => absurd h (by decide)) (by rfl)
          simp only [e39, e10, e34]
          refine Inv.take (i := 6) (v := .int .i64 er) (by decide) rfl (by kernel_rfl) (by kernel_rfl) (by kernel_rfl) (fun _ _ _ h => h) (by rfl) (fun w' => ?_) ?_
          · simp only [List.getElem_toArray, List.getElem_cons_zero, List.getElem_cons_succ]
            go_simp
          try simp only [Act.put, List.setIfInBounds_toArray, List.set_cons_zero, List.set_cons_succ]
          refine Inv.one (i := 8) (by decide) (by kernel_rfl) (by rfl) (fun K hK => ?_)
          simp only [List.getElem_toArray, List.getElem_cons_zero, List.getElem_cons_succ, Act.put, List.setIfInBounds_toArray, List.set_cons_zero, List.set_cons_succ] at hK ⊢
          refine wp_store_row 28 (.tmp 10) (.tmp 39) rfl p10 #[.int .i64 y1, .int .i64 y2, .int .i64 y3, .int .i64 y4, .int .i64 y5, .int .i64 y6, .int .i64 y7, .int .i64 y8, .int .i64 y9, .int .i64 y10, .int .i64 y11, .int .i64 y12] rfl rfl 28 #[.int .i64 0, .int .i64 0, .int .i64 0, .int .i64 0, .int .i64 0, .int .i64 0, .int .i64 0, .int .i64 0, .int .i64 0, .int .i64 0, .int .i64 0, .int .i64 0] k10 rfl rfl (by simp [Value.oneCell']) ?_
          refine hK.out _ _ ?_
          clear hK K
          try simp only [Act.put, List.setIfInBounds_toArray, List.set_cons_zero, List.set_cons_succ]
          have X10 : Hid ((wx.setRow p10 #[.int .i64 y1, .int .i64 y2, .int .i64 y3, .int .i64 y4, .int .i64 y5, .int .i64 y6, .int .i64 y7, .int .i64 y8, .int .i64 y9, .int .i64 y10, .int .i64 y11, .int .i64 y12]).heap[p10]? = some (.cells #[.int .i64 y1, .int .i64 y2, .int .i64 y3, .int .i64 y4, .int .i64 y5, .int .i64 y6, .int .i64 y7, .int .i64 y8, .int .i64 y9, .int .i64 y10, .int .i64 y11, .int .i64 y12] 28 (0, 0))) := Lib.hid (setRow_heap _ _ _ _ _ _ k10)
          have L5 : Hid (Src.Left wa w4 (wx.setRow p10 #[.int .i64 y1, .int .i64 y2, .int .i64 y3, .int .i64 y4, .int .i64 y5, .int .i64 y6, .int .i64 y7, .int .i64 y8, .int .i64 y9, .int .i64 y10, .int .i64 y11, .int .i64 y12]) g a0 m cap0 z0) := Lib.hid (Src.Left.past L4.out.di hw (Mid.below_row (Below.refl _ _) _ _ g10))
          obtain ⟨w5, hw5⟩ : ∃ z, z = wx.setRow p10 #[.int .i64 y1, .int .i64 y2, .int .i64 y3, .int .i64 y4, .int .i64 y5, .int .i64 y6, .int .i64 y7, .int .i64 y8, .int .i64 y9, .int .i64 y10, .int .i64 y11, .int .i64 y12] := ⟨_, rfl⟩
          rw [← hw5] at X10 L5 ⊢
          clear hw5 k10
          refine Inv.take (i := 9) (v := .int .i64 er) (by decide) rfl (by kernel_rfl) (by kernel_rfl) (by kernel_rfl) (fun _ _ _ h => h) (by rfl) (fun w' => ?_) ?_
          · simp only [List.getElem_toArray, List.getElem_cons_zero, List.getElem_cons_succ]
            go_simp
          try simp only [Act.put, List.setIfInBounds_toArray, List.set_cons_zero, List.set_cons_succ]
          refine Inv.done (by kernel_rfl) (NoPanic.normal ?_)
          clear hd hw e39 e10 e34
          go_wp2_with fail
          go_meet
          exact ⟨p10, er, y1, y2, y3, y4, y5, y6, y7, y8, y9, y10, y11, y12, rfl, rfl, X10, L5, n10⟩
        · obtain ⟨y1, y2, y3, y4, y5, y6, y7, y8, y9, y10, y11, y12, e39⟩ : ∃ y1 y2 y3 y4 y5 y6 y7 y8 y9 y10 y11 y12 : Int, (σ 39) = .agg #[.int .i64 y1, .int .i64 y2, .int .i64 y3, .int .i64 y4, .int .i64 y5, .int .i64 y6, .int .i64 y7, .int .i64 y8, .int .i64 y9, .int .i64 y10, .int .i64 y11, .int .i64 y12] := hd 5 (some 39) (by kernel_rfl) (by decide) (fun h => absurd h (by decide)) (by rfl)
          obtain ⟨p10, e10, k10, n10, g10⟩ : ∃ k : Nat, (σ 10) = .pointer (some ⟨k, 0, none⟩) ∧ wx.heap[k]? = some (.cells #[.int .i64 0, .int .i64 0, .int .i64 0, .int .i64 0, .int .i64 0, .int .i64 0, .int .i64 0, .int .i64 0, .int .i64 0, .int .i64 0, .int .i64 0, .int .i64 0] 28 (0, 0)) ∧ k ≠ g ∧ w4.heap.size ≤ k := hd 7 (some 10) (by kernel_rfl) (by decide) (fun h => absurd h (by decide)) (by rfl)
          obtain ⟨er, e40⟩ : ∃ er : Int, (σ 40) = .int .i64 er := hd 6 (some 40) (by kernel_rfl) (by decide) (fun h => absurd h (by decide)) (by rfl)
          simp only [e39, e10, e40]
          refine Inv.one (i := 8) (by decide) (by kernel_rfl) (by rfl) (fun K hK => ?_)
          simp only [List.getElem_toArray, List.getElem_cons_zero, List.getElem_cons_succ, Act.put, List.setIfInBounds_toArray, List.set_cons_zero, List.set_cons_succ] at hK ⊢
          refine wp_store_row 28 (.tmp 10) (.tmp 39) rfl p10 #[.int .i64 y1, .int .i64 y2, .int .i64 y3, .int .i64 y4, .int .i64 y5, .int .i64 y6, .int .i64 y7, .int .i64 y8, .int .i64 y9, .int .i64 y10, .int .i64 y11, .int .i64 y12] rfl rfl 28 #[.int .i64 0, .int .i64 0, .int .i64 0, .int .i64 0, .int .i64 0, .int .i64 0, .int .i64 0, .int .i64 0, .int .i64 0, .int .i64 0, .int .i64 0, .int .i64 0] k10 rfl rfl (by simp [Value.oneCell']) ?_
          refine hK.out _ _ ?_
          clear hK K
          try simp only [Act.put, List.setIfInBounds_toArray, List.set_cons_zero, List.set_cons_succ]
          have X10 : Hid ((wx.setRow p10 #[.int .i64 y1, .int .i64 y2, .int .i64 y3, .int .i64 y4, .int .i64 y5, .int .i64 y6, .int .i64 y7, .int .i64 y8, .int .i64 y9, .int .i64 y10, .int .i64 y11, .int .i64 y12]).heap[p10]? = some (.cells #[.int .i64 y1, .int .i64 y2, .int .i64 y3, .int .i64 y4, .int .i64 y5, .int .i64 y6, .int .i64 y7, .int .i64 y8, .int .i64 y9, .int .i64 y10, .int .i64 y11, .int .i64 y12] 28 (0, 0))) := Lib.hid (setRow_heap _ _ _ _ _ _ k10)
          have L5 : Hid (Src.Left wa w4 (wx.setRow p10 #[.int .i64 y1, .int .i64 y2, .int .i64 y3, .int .i64 y4, .int .i64 y5, .int .i64 y6, .int .i64 y7, .int .i64 y8, .int .i64 y9, .int .i64 y10, .int .i64 y11, .int .i64 y12]) g a0 m cap0 z0) := Lib.hid (Src.Left.past L4.out.di hw (Mid.below_row (Below.refl _ _) _ _ g10))
          obtain ⟨w5, hw5⟩ : ∃ z, z = wx.setRow p10 #[.int .i64 y1, .int .i64 y2, .int .i64 y3, .int .i64 y4, .int .i64 y5, .int .i64 y6, .int .i64 y7, .int .i64 y8, .int .i64 y9, .int .i64 y10, .int .i64 y11, .int .i64 y12] := ⟨_, rfl⟩
          rw [← hw5] at X10 L5 ⊢
          clear hw5 k10
          refine Inv.take (i := 9) (v := .int .i64 er) (by decide) rfl (by kernel_rfl) (by kernel_rfl) (by kernel_rfl) (fun _ _ _ h => h) (by rfl) (fun w' => ?_) ?_
          · simp only [List.getElem_toArray, List.getElem_cons_zero, List.getElem_cons_succ]
            go_simp
          try simp only [Act.put, List.setIfInBounds_toArray, List.set_cons_zero, List.set_cons_succ]
          refine Inv.done (by kernel_rfl) (NoPanic.normal ?_)
          clear hd hw e39 e10 e40
          go_wp2_with fail
          go_meet
          exact ⟨p10, er, y1, y2, y3, y4, y5, y6, y7, y8, y9, y10, y11, y12, rfl, rfl, X10, L5, n10⟩
    case rest =>
      obtain ⟨p10, er, y1, y2, y3, y4, y5, y6, y7, y8, y9, y10, y11, y12, rfl, rfl, X10, L5, ne10⟩ := hcut
      rename_i hKK
      refine hKK _ _ ?_
      clear hKK
      obtain ⟨w5, rfl⟩ : ∃ z : World, z = wc := ⟨_, rfl⟩
      rename_i pw2i0
      revert a0 len0 cap0 z0 aL nL cL zL r1 r2 r3 r4 r5 r6 r7 r8 r9 r10 r11 r12 w AW wa p5 h5 Na pw1i0 hlen LS hi wb m g gw ne5 HG w2 A1 A2 A3 D1 D2 D3 s b1 b2 n c1 c2 lo hi' gp cpp L cp nl w3 p8 ne8 w4 tol t0 t9 L4 K8 K5e SP BVR X1 X2 X3 Ak PP HM' few RL RA pw2i0 u24 u25 u26 u27 u28 u29 u30 u31 u32 u33 u34 u35 u36 u37 u38 u39 u40 u41 u42 u43 u44 u45 u46 u47 u48 u49 u50 u51 u52 u53 u54 u58 u59 u60 u61 u62 u63 u64 u68 u69 u70 u71 u72 u73 u74 u75 u76 u77 u78 u82 u83 u84 u85 u86 u87 u88 u89 u90 u91 u92 u93 u94 u95 u96 u97 u98 u99 u100 u101 u102 u103 u104 u105 u106 u107 u108 u109 u110 u111 u112 u113 u114 u115 u116 u117 u118 u119 u120 u121 u122 u123 u124 u125 u126 u127 u128 u129 u130 u131 u132 u133 u134 u135 u136 p10 er y1 y2 y3 y4 y5 y6 y7 y8 y9 y10 y11 y12 ne10 w5 X10 L5
      exact hck_pw2.out
set_option maxHeartbeats 16000000 in
set_option maxRecDepth 100000 in
noncomputable def ck_pw2 : (P_pw3 : Prop) ×' (Ckp P_pw3 → ck_pw1.1) := by
  apply PSigma.mk
  case snd =>
    intro hck_pw3
    intro a0 len0 cap0 z0 aL nL cL zL r1 r2 r3 r4 r5 r6
      r7 r8 r9 r10 r11 r12 w AW wa p5 h5 Na pw1i0 hlen
      LS hi wb m g gw ne5 HG w2 A1 A2 A3 D1 D2
      D3 s b1 b2 n c1 c2 lo hi' gp cpp L cp nl
      w3 p8 ne8 w4 tol t0 t9 L4 K8 K5e SP BVR X1 X2
      X3 Ak PP HM' few RL RA pw2i0 u24 u25 u26 u27 u28 u29
      u30 u31 u32 u33 u34 u35 u36 u37 u38 u39 u40 u41 u42 u43
      u44 u45 u46 u47 u48 u49 u50 u51 u52 u53 u54 u58 u59 u60
      u61 u62 u63 u64 u68 u69 u70 u71 u72 u73 u74 u75 u76 u77
      u78 u82 u83 u84 u85 u86 u87 u88 u89 u90 u91 u92 u93 u94
      u95 u96 u97 u98 u99 u100 u101 u102 u103 u104 u105 u106 u107 u108
      u109 u110 u111 u112 u113 u114 u115 u116 u117 u118 u119 u120 u121 u122
      u123 u124 u125 u126 u127 u128 u129 u130 u131 u132 u133 u134 u135 u136
      p10 er y1 y2 y3 y4 y5 y6 y7 y8 y9 y10 y11 y12
      ne10 w5 X10 L5
    have K85 := Lib.hid (L5.out.blk K8.out ne8)
    have K55 := Lib.hid (L5.out.blk K5e.out ne5)
    have BT : Hid (Calls Try.prog 9 #[.pointer (some ⟨g, 0, none⟩), .agg #[.int .i64 A1, .int .i64 A2, .int .i64 A3, .int .i64 D1, .int .i64 D2, .int .i64 D3, .int .i64 s, .slice (some ⟨b1, 0, none⟩) n c1, .slice (some ⟨b2, 0, none⟩) n c2, .slice (some ⟨gp, 0, none⟩) nl cpp, .int .i64 cp], .agg #[.int .i64 y1, .int .i64 y2, .int .i64 y3, .int .i64 y4, .int .i64 y5, .int .i64 y6, .int .i64 y7, .int .i64 y8, .int .i64 y9, .int .i64 y10, .int .i64 y11, .int .i64 y12]] w5 fun e w' => (∃ z1 z2 z3 z4 z5 z6 z7 z8 z9 z10 z11 z12 : Int, e = .returned (.agg #[.int .i64 z1, .int .i64 z2, .int .i64 z3, .int .i64 z4, .int .i64 z5, .int .i64 z6, .int .i64 z7, .int .i64 z8, .int .i64 z9, .int .i64 z10, .int .i64 z11, .int .i64 z12])) ∧ Src.Left wa w5 w' g a0 m cap0 z0) := Lib.hid (bent29_any L5.out.di ⟨A1, A2, A3, D1, D2, D3⟩ ⟨s, b1, n, c1, b2, n, c2, gp, nl, cpp, cp⟩ BVR.out (fun w' l p hp => RA.out w' (L5.out.trans l) p hp) y1 y2 y3 y4 y5 y6 y7 y8 y9 y10 y11 y12)
    clear K8 K5e RA RL
    go_upto_region 8 with (first | ((with_reducible refine Mid.ldr 36 (.tmp 8) p8 36 #[.int .i64 A1, .int .i64 A2, .int .i64 A3, .int .i64 D1, .int .i64 D2, .int .i64 D3, .int .i64 s, .slice (some ⟨b1, 0, none⟩) n c1, .slice (some ⟨b2, 0, none⟩) n c2, .slice (some ⟨gp, 0, none⟩) nl cpp, .int .i64 cp] K85.out ?_ ?_ ?_ ?_ ?_ ?_); (· rfl); (· rfl); (· first | rfl | simp [Act.eval]); (· exact ⟨_, rfl, rfl⟩); (· kernel_rfl)) | ((with_reducible refine Mid.ldr 28 (.tmp 10) p10 28 #[.int .i64 y1, .int .i64 y2, .int .i64 y3, .int .i64 y4, .int .i64 y5, .int .i64 y6, .int .i64 y7, .int .i64 y8, .int .i64 y9, .int .i64 y10, .int .i64 y11, .int .i64 y12] X10.out ?_ ?_ ?_ ?_ ?_ ?_); (· rfl); (· rfl); (· first | rfl | simp [Act.eval]); (· exact ⟨_, rfl, rfl⟩); (· kernel_rfl)) | (go_at_call 9; refine BT.out.mono ?_; rintro e w6 ⟨⟨z1, z2, z3, z4, z5, z6, z7, z8, z9, z10, z11, z12, rfl⟩, l6⟩; have L6 := Lib.hid (L5.out.trans l6); have K86 := Lib.hid (l6.blk K85.out ne8); have K56 := Lib.hid (l6.blk K55.out ne5); have X106 := Lib.hid (l6.blk X10.out ne10); clear l6) | ((with_reducible refine Mid.str 28 (.tmp 12) (.tmp 44) w6.heap.size 28 #[.int .i64 0, .int .i64 0, .int .i64 0, .int .i64 0, .int .i64 0, .int .i64 0, .int .i64 0, .int .i64 0, .int .i64 0, .int .i64 0, .int .i64 0, .int .i64 0] #[.int .i64 z1, .int .i64 z2, .int .i64 z3, .int .i64 z4, .int .i64 z5, .int .i64 z6, .int .i64 z7, .int .i64 z8, .int .i64 z9, .int .i64 z10, .int .i64 z11, .int .i64 z12] (heap_alloc_new w6 _) ?_ ?_ ?_ ?_ ?_ ?_ ?_ ?_); (· rfl); (· rfl); (· first | rfl | simp [Act.eval]); (· first | rfl | simp [Act.eval]); (· kernel_rfl); (· rfl); (· simp [Value.oneCell'])))
    try simp only [Act.put]
    have N7 : Below w6.heap.size w6 ((w6.alloc (.cells #[.int .i64 0, .int .i64 0, .int .i64 0, .int .i64 0, .int .i64 0, .int .i64 0, .int .i64 0, .int .i64 0, .int .i64 0, .int .i64 0, .int .i64 0, .int .i64 0] 28)).setRow w6.heap.size #[.int .i64 z1, .int .i64 z2, .int .i64 z3, .int .i64 z4, .int .i64 z5, .int .i64 z6, .int .i64 z7, .int .i64 z8, .int .i64 z9, .int .i64 z10, .int .i64 z11, .int .i64 z12]) := Mid.below_row (Mis.new_block _) _ _ (Nat.le_refl _)
    have X12 := Lib.hid (show ((w6.alloc (.cells #[.int .i64 0, .int .i64 0, .int .i64 0, .int .i64 0, .int .i64 0, .int .i64 0, .int .i64 0, .int .i64 0, .int .i64 0, .int .i64 0, .int .i64 0, .int .i64 0] 28)).setRow w6.heap.size #[.int .i64 z1, .int .i64 z2, .int .i64 z3, .int .i64 z4, .int .i64 z5, .int .i64 z6, .int .i64 z7, .int .i64 z8, .int .i64 z9, .int .i64 z10, .int .i64 z11, .int .i64 z12]).heap[w6.heap.size]? = some (.cells #[.int .i64 z1, .int .i64 z2, .int .i64 z3, .int .i64 z4, .int .i64 z5, .int .i64 z6, .int .i64 z7, .int .i64 z8, .int .i64 z9, .int .i64 z10, .int .i64 z11, .int .i64 z12] 28 (0, 0)) from setRow_heap _ _ _ _ _ _ (heap_alloc_new w6 _))
    obtain ⟨w7, hw7⟩ : ∃ z, z = (w6.alloc (.cells #[.int .i64 0, .int .i64 0, .int .i64 0, .int .i64 0, .int .i64 0, .int .i64 0, .int .i64 0, .int .i64 0, .int .i64 0, .int .i64 0, .int .i64 0, .int .i64 0] 28)).setRow w6.heap.size #[.int .i64 z1, .int .i64 z2, .int .i64 z3, .int .i64 z4, .int .i64 z5, .int .i64 z6, .int .i64 z7, .int .i64 z8, .int .i64 z9, .int .i64 z10, .int .i64 z11, .int .i64 z12] := ⟨_, rfl⟩
    rw [← hw7] at N7 X12 ⊢
    obtain ⟨p12, hp12⟩ : ∃ z, z = w6.heap.size := ⟨_, rfl⟩
    rw [← hp12] at X12 ⊢
    have L7 := Lib.hid (L6.out.below N7)
    have K87 := Lib.hid (Mis.hb N7 K86.out)
    have K57 := Lib.hid (Mis.hb N7 K56.out)
    have X107 := Lib.hid (Mis.hb N7 X106.out)
    clear hw7 hp12 N7 L6 K86 K56 X106 K85 K55 X10 BT
    have P7 := Lib.hid (PP.out w7 L7.out)
    have LB7 := Lib.hid (show Below w.heap.size w w7 from Buf.then_ Na.out (L4.out.trans L7.out).di.bel)
    have LS7 : Hid (Lst w7 (.slice aL nL cL) (zL.take nL)) := Lib.hid (LS.out.1.below (L4.out.trans L7.out).di.bel)
    have LSn : Hid ((zL.take nL).length ≤ 6001) := Lib.hid (by rw [LS.out.2]; omega)
    obtain ⟨er2, cc_, hc9, MC, MOK⟩ := make_all (tol := tol) P7.out BVR.out (by have := few.out; omega) (⟨[], 0, 0, false, z1, z2, z3, z4, z5⟩ : St) z6 ⟨z7, z8, z9, z10, z11, z12⟩ t0 (by omega)
    replace MC : Hid (Calls Try.prog 10 #[.agg #[.int .i64 A1, .int .i64 A2, .int .i64 A3, .int .i64 D1, .int .i64 D2, .int .i64 D3, .int .i64 s, .slice (some ⟨b1, 0, none⟩) n c1, .slice (some ⟨b2, 0, none⟩) n c2, .slice (some ⟨gp, 0, none⟩) nl cpp, .int .i64 cp], .agg #[.int .i64 z1, .int .i64 z2, .int .i64 z3, .int .i64 z4, .int .i64 z5, .int .i64 z6, .int .i64 z7, .int .i64 z8, .int .i64 z9, .int .i64 z10, .int .i64 z11, .int .i64 z12], .int .i64 tol] w7 fun e w' => ∃ v, e = .returned (.tuple #[v, .int .i64 er2]) ∧ w'.ownsRow w7.heap.size 3 1 v cc_.length (cc_.map fun z => .int .i64 z) ∧ Below w7.heap.size w7 w') := Lib.hid MC
    replace MOK : Hid (er2 = 0 → ∀ w', Below w7.heap.size w7 w' → ∀ cv, Lst w' cv cc_ → Calls Try.prog 11 #[.agg #[.int .i64 A1, .int .i64 A2, .int .i64 A3, .int .i64 D1, .int .i64 D2, .int .i64 D3, .int .i64 s, .slice (some ⟨b1, 0, none⟩) n c1, .slice (some ⟨b2, 0, none⟩) n c2, .slice (some ⟨gp, 0, none⟩) nl cpp, .int .i64 cp], .agg #[.int .i64 z1, .int .i64 z2, .int .i64 z3, .int .i64 z4, .int .i64 z5, .int .i64 z6, .int .i64 z7, .int .i64 z8, .int .i64 z9, .int .i64 z10, .int .i64 z11, .int .i64 z12], .int .i64 tol, cv] w' fun e w'' => e = .returned (.int .i64 0) ∧ Below w'.heap.size w' w'') := Lib.hid MOK
    replace hc9 := Lib.hid hc9
    clear PP L7 L4 L5 Na LS
    go_upto_region 9 with (first | ((with_reducible refine Mid.ldr 36 (.tmp 8) p8 36 #[.int .i64 A1, .int .i64 A2, .int .i64 A3, .int .i64 D1, .int .i64 D2, .int .i64 D3, .int .i64 s, .slice (some ⟨b1, 0, none⟩) n c1, .slice (some ⟨b2, 0, none⟩) n c2, .slice (some ⟨gp, 0, none⟩) nl cpp, .int .i64 cp] K87.out ?_ ?_ ?_ ?_ ?_ ?_); (· rfl); (· rfl); (· first | rfl | simp [Act.eval]); (· exact ⟨_, rfl, rfl⟩); (· kernel_rfl)) | ((with_reducible refine Mid.ldr 28 (.tmp 12) p12 28 #[.int .i64 z1, .int .i64 z2, .int .i64 z3, .int .i64 z4, .int .i64 z5, .int .i64 z6, .int .i64 z7, .int .i64 z8, .int .i64 z9, .int .i64 z10, .int .i64 z11, .int .i64 z12] X12.out ?_ ?_ ?_ ?_ ?_ ?_); (· rfl); (· rfl); (· first | rfl | simp [Act.eval]); (· exact ⟨_, rfl, rfl⟩); (· kernel_rfl)) | (go_at_call 10; refine MC.out.mono ?_; rintro e w8 ⟨v, rfl, own, b8⟩; obtain ⟨ad, nn, cc, rfl, hnn⟩ := Mis.own_letter own; have LC8 := Lib.hid (lst_own own); have B8 := Lib.hid b8; clear own b8))
    have K88 := Lib.hid (Mis.hb B8.out K87.out)
    have K58 := Lib.hid (Mis.hb B8.out K57.out)
    have X108 := Lib.hid (Mis.hb B8.out X107.out)
    have X128 := Lib.hid (Mis.hb B8.out X12.out)
    clear K87 K57 X107 MC
    go_upto_region 10 with (first | ((with_reducible refine Mid.ldr 28 (.tmp 10) p10 28 #[.int .i64 y1, .int .i64 y2, .int .i64 y3, .int .i64 y4, .int .i64 y5, .int .i64 y6, .int .i64 y7, .int .i64 y8, .int .i64 y9, .int .i64 y10, .int .i64 y11, .int .i64 y12] X108.out ?_ ?_ ?_ ?_ ?_ ?_); (· rfl); (· rfl); (· first | rfl | simp [Act.eval]); (· exact ⟨_, rfl, rfl⟩); (· kernel_rfl)) | ((with_reducible refine Mid.ldr 28 (.tmp 12) p12 28 #[.int .i64 z1, .int .i64 z2, .int .i64 z3, .int .i64 z4, .int .i64 z5, .int .i64 z6, .int .i64 z7, .int .i64 z8, .int .i64 z9, .int .i64 z10, .int .i64 z11, .int .i64 z12] X128.out ?_ ?_ ?_ ?_ ?_ ?_); (· rfl); (· rfl); (· first | rfl | simp [Act.eval]); (· exact ⟨_, rfl, rfl⟩); (· kernel_rfl)) | ((with_reducible refine Mid.ldr 28 (.tmp 5) p5 28 #[.int .i64 r1, .int .i64 r2, .int .i64 r3, .int .i64 r4, .int .i64 r5, .int .i64 r6, .int .i64 r7, .int .i64 r8, .int .i64 r9, .int .i64 r10, .int .i64 r11, .int .i64 r12] K58.out ?_ ?_ ?_ ?_ ?_ ?_); (· rfl); (· rfl); (· first | rfl | simp [Act.eval]); (· exact ⟨_, rfl, rfl⟩); (· kernel_rfl)))
    have N9 := Mis.new_block (w := w8) (.cells #[.int .i64 y1, .int .i64 y2, .int .i64 y3, .int .i64 y4, .int .i64 y5, .int .i64 y6, .int .i64 y7, .int .i64 y8, .int .i64 y9, .int .i64 y10, .int .i64 y11, .int .i64 y12, .int .i64 z1, .int .i64 z2, .int .i64 z3, .int .i64 z4, .int .i64 z5, .int .i64 z6, .int .i64 z7, .int .i64 z8, .int .i64 z9, .int .i64 z10, .int .i64 z11, .int .i64 z12, .int .i64 r1, .int .i64 r2, .int .i64 r3, .int .i64 r4, .int .i64 r5, .int .i64 r6, .int .i64 r7, .int .i64 r8, .int .i64 r9, .int .i64 r10, .int .i64 r11, .int .i64 r12] 28)
    have X55 := Lib.hid (heap_alloc_new w8 (.cells #[.int .i64 y1, .int .i64 y2, .int .i64 y3, .int .i64 y4, .int .i64 y5, .int .i64 y6, .int .i64 y7, .int .i64 y8, .int .i64 y9, .int .i64 y10, .int .i64 y11, .int .i64 y12, .int .i64 z1, .int .i64 z2, .int .i64 z3, .int .i64 z4, .int .i64 z5, .int .i64 z6, .int .i64 z7, .int .i64 z8, .int .i64 z9, .int .i64 z10, .int .i64 z11, .int .i64 z12, .int .i64 r1, .int .i64 r2, .int .i64 r3, .int .i64 r4, .int .i64 r5, .int .i64 r6, .int .i64 r7, .int .i64 r8, .int .i64 r9, .int .i64 r10, .int .i64 r11, .int .i64 r12] 28))
    obtain ⟨w9, hw9⟩ : ∃ z, z = w8.alloc (.cells #[.int .i64 y1, .int .i64 y2, .int .i64 y3, .int .i64 y4, .int .i64 y5, .int .i64 y6, .int .i64 y7, .int .i64 y8, .int .i64 y9, .int .i64 y10, .int .i64 y11, .int .i64 y12, .int .i64 z1, .int .i64 z2, .int .i64 z3, .int .i64 z4, .int .i64 z5, .int .i64 z6, .int .i64 z7, .int .i64 z8, .int .i64 z9, .int .i64 z10, .int .i64 z11, .int .i64 z12, .int .i64 r1, .int .i64 r2, .int .i64 r3, .int .i64 r4, .int .i64 r5, .int .i64 r6, .int .i64 r7, .int .i64 r8, .int .i64 r9, .int .i64 r10, .int .i64 r11, .int .i64 r12] 28) := ⟨_, rfl⟩
    rw [← hw9] at N9 X55 ⊢
    obtain ⟨p55, hp55⟩ : ∃ z, z = w8.heap.size := ⟨_, rfl⟩
    rw [← hp55] at X55 ⊢
    have K89 := Lib.hid (Mis.hb N9 K88.out)
    have X129 := Lib.hid (Mis.hb N9 X128.out)
    have B9 := Lib.hid (Buf.then_ B8.out N9)
    have LC9 := Lib.hid (LC8.out.below N9)
    have LS9 := Lib.hid (LS7.out.below B9.out)
    have P9 := Lib.hid (P7.out.below B9.out)
    have LB9 := Lib.hid (Buf.then_ LB7.out B9.out)
    clear hw9 hp55 N9 K88 X128 K58 X108 LC8 LS7 P7 B8 X12
    have CHK : Hid (∀ (q1 q2 q3 q4 q5 q6 q7 q8 q9 q10 q11 q12 : Int) (wX : World), Below w9.heap.size w9 wX → ∀ cv c, Lst wX cv c → c.length ≤ 6001 → ∃ r : Int, (∀ w', Below wX.heap.size wX w' → Calls Try.prog 11 #[.agg #[.int .i64 A1, .int .i64 A2, .int .i64 A3, .int .i64 D1, .int .i64 D2, .int .i64 D3, .int .i64 s, .slice (some ⟨b1, 0, none⟩) n c1, .slice (some ⟨b2, 0, none⟩) n c2, .slice (some ⟨gp, 0, none⟩) nl cpp, .int .i64 cp], .agg #[.int .i64 q1, .int .i64 q2, .int .i64 q3, .int .i64 q4, .int .i64 q5, .int .i64 q6, .int .i64 q7, .int .i64 q8, .int .i64 q9, .int .i64 q10, .int .i64 q11, .int .i64 q12], .int .i64 tol, cv] w' fun e w'' => e = .returned (.int .i64 r) ∧ Below w'.heap.size w' w'') ∧
        (r = 0 → 0 ≤ q5 ∧ q5 ≤ 1125899906842624 ∧ ∀ p, inB ⟨A1, A2, A3, D1, D2, D3⟩ p → q6 ≤ (Ak.G p).2 ∧ q5 - tol ≤ (Ak.G p).2 ∧ ((Ak.G p).2 < q5 → Geo.coV q7 q8 q9 q10 q11 q12 p.1 p.2.1 p.2.2 = true))) := Lib.hid fun q1 q2 q3 q4 q5 q6 q7 q8 q9 q10 q11 q12 wX hX cv c hL hl =>
      check_all (P9.out.below hX) BVR.out HM'.out (⟨[], 0, 0, false, q1, q2, q3, q4, q5⟩ : St) q6 ⟨q7, q8, q9, q10, q11, q12⟩ t0 (by omega) hL hl
    have G0 : Hid (∀ p, inB ⟨A1, A2, A3, D1, D2, D3⟩ p → 0 ≤ (Ak.G p).2 ∧ (Ak.G p).2 ≤ 1125899906842624) := Lib.hid P9.out.g0
    have ATC : Hid (∀ w', Below w9.heap.size w9 w' → ∀ p, inB ⟨A1, A2, A3, D1, D2, D3⟩ p → Calls Try.prog 13 #[.agg #[.int .i64 A1, .int .i64 A2, .int .i64 A3, .int .i64 D1, .int .i64 D2, .int .i64 D3, .int .i64 s, .slice (some ⟨b1, 0, none⟩) n c1, .slice (some ⟨b2, 0, none⟩) n c2, .slice (some ⟨gp, 0, none⟩) nl cpp, .int .i64 cp], .agg #[.int .i64 p.1, .int .i64 p.2.1, .int .i64 p.2.2]] w' fun e w'' => e = .returned (.tuple #[.int .i64 (Ak.G p).1, .int .i64 (Ak.G p).2, .int .i64 0]) ∧ Below w'.heap.size w' w'') := Lib.hid P9.out.at_
    clear P9 LB7 few HM' ne5 ne8 ne10
    obtain ⟨G, hG⟩ : ∃ G : P3 → Int × Int, G = Ak.G := ⟨_, rfl⟩
    rw [← hG] at CHK G0 ATC
    clear hG
    rename_i pw3i0 pw3i1
    revert a0 len0 cap0 z0 aL nL cL zL r1 r2 r3 r4 r5 r6 r7 r8 r9 r10 r11 r12 w AW wa p5 h5 pw1i0 hlen hi wb m g gw HG w2 A1 A2 A3 D1 D2 D3 s b1 b2 n c1 c2 lo hi' gp cpp L cp nl w3 p8 w4 tol t0 t9 SP BVR X1 X2 X3 Ak pw2i0 u24 u25 u26 u27 u28 u29 u30 u31 u32 u33 u34 u35 u36 u37 u38 u39 u40 u41 u42 u43 u44 u45 u46 u47 u48 u49 u50 u51 u52 u53 u54 u58 u59 u60 u61 u62 u63 u64 u68 u69 u70 u71 u72 u73 u74 u75 u76 u77 u78 u82 u83 u84 u85 u86 u87 u88 u89 u90 u91 u92 u93 u94 u95 u96 u97 u98 u99 u100 u101 u102 u103 u104 u105 u106 u107 u108 u109 u110 u111 u112 u113 u114 u115 u116 u117 u118 u119 u120 u121 u122 u123 u124 u125 u126 u127 u128 u129 u130 u131 u132 u133 u134 u135 u136 p10 er y1 y2 y3 y4 y5 y6 y7 y8 y9 y10 y11 y12 w5 w6 z1 z2 z3 z4 z5 z6 z7 z8 z9 z10 z11 z12 w7 p12 LSn er2 cc_ MOK hc9 w8 ad nn cc hnn pw3i0 pw3i1 w9 p55 X55 K89 X129 B9 LC9 LS9 LB9 G ATC G0 CHK
    exact hck_pw3.out
set_option maxHeartbeats 16000000 in
set_option maxRecDepth 100000 in
noncomputable def ck_pw3 : (P_pw4 : Prop) ×' (P_pw6 : Prop) ×' (Ckp P_pw4 → Ckp P_pw6 → ck_pw2.1) := by
  apply PSigma.mk
  case snd =>
    apply PSigma.mk
    case snd =>
      intro hck_pw4 hck_pw6
      intro a0 len0 cap0 z0 aL nL cL zL r1 r2 r3 r4 r5 r6
        r7 r8 r9 r10 r11 r12 w AW wa p5 h5 pw1i0 hlen hi
        wb m g gw HG w2 A1 A2 A3 D1 D2 D3 s b1
        b2 n c1 c2 lo hi' gp cpp L cp nl w3 p8 w4
        tol t0 t9 SP BVR X1 X2 X3 Ak pw2i0 u24 u25 u26 u27
        u28 u29 u30 u31 u32 u33 u34 u35 u36 u37 u38 u39 u40 u41
        u42 u43 u44 u45 u46 u47 u48 u49 u50 u51 u52 u53 u54 u58
        u59 u60 u61 u62 u63 u64 u68 u69 u70 u71 u72 u73 u74 u75
        u76 u77 u78 u82 u83 u84 u85 u86 u87 u88 u89 u90 u91 u92
        u93 u94 u95 u96 u97 u98 u99 u100 u101 u102 u103 u104 u105 u106
        u107 u108 u109 u110 u111 u112 u113 u114 u115 u116 u117 u118 u119 u120
        u121 u122 u123 u124 u125 u126 u127 u128 u129 u130 u131 u132 u133 u134
        u135 u136 p10 er y1 y2 y3 y4 y5 y6 y7 y8 y9 y10
        y11 y12 w5 w6 z1 z2 z3 z4 z5 z6 z7 z8 z9 z10
        z11 z12 w7 p12 LSn er2 cc_ MOK hc9 w8 ad nn cc hnn
        pw3i0 pw3i1 w9 p55 X55 K89 X129 B9 LC9 LS9 LB9 G ATC G0
        CHK
      go_loopw [57] (fun i wr => ∃ k : Nat, k ≤ 3 ∧ i = .int .i64 k ∧ Hid (Below w9.heap.size w9 wr)) (fun i _ => 3 - (intOf i).toNat)
      case atStart => exact ⟨0, by omega, rfl, Lib.hid (Below.refl _ _)⟩
      case round =>
        obtain ⟨k, hk, rfl, BR⟩ := hrel
        by_cases hlt : k < 3
        · have kn : (k : Int) < 3 := by omega
          obtain ⟨q1, q2, q3, q4, q5, q6, q7, q8, q9, q10, q11, q12, RQ⟩ : ∃ q1 q2 q3 q4 q5 q6 q7 q8 q9 q10 q11 q12 : Int, Hid (wr.rangeAt p55 (k * 12) [.int .i64 q1, .int .i64 q2, .int .i64 q3, .int .i64 q4, .int .i64 q5, .int .i64 q6, .int .i64 q7, .int .i64 q8, .int .i64 q9, .int .i64 q10, .int .i64 q11, .int .i64 q12]) := by
            have X := Mis.hb BR.out X55.out
            rcases (by omega : k = 0 ∨ k = 1 ∨ k = 2) with rfl | rfl | rfl
            · exact ⟨_, _, _, _, _, _, _, _, _, _, _, _, Lib.hid (Mid.range X 0 [.int .i64 y1, .int .i64 y2, .int .i64 y3, .int .i64 y4, .int .i64 y5, .int .i64 y6, .int .i64 y7, .int .i64 y8, .int .i64 y9, .int .i64 y10, .int .i64 y11, .int .i64 y12] (by rfl))⟩
            · exact ⟨_, _, _, _, _, _, _, _, _, _, _, _, Lib.hid (Mid.range X 12 [.int .i64 z1, .int .i64 z2, .int .i64 z3, .int .i64 z4, .int .i64 z5, .int .i64 z6, .int .i64 z7, .int .i64 z8, .int .i64 z9, .int .i64 z10, .int .i64 z11, .int .i64 z12] (by rfl))⟩
            · exact ⟨_, _, _, _, _, _, _, _, _, _, _, _, Lib.hid (Mid.range X 24 [.int .i64 r1, .int .i64 r2, .int .i64 r3, .int .i64 r4, .int .i64 r5, .int .i64 r6, .int .i64 r7, .int .i64 r8, .int .i64 r9, .int .i64 r10, .int .i64 r11, .int .i64 r12] (by rfl))⟩
          go_upto_region 12 with (first | ((with_reducible refine Mid.ldm 28 (.tmp 59) p55 (k * 12) [.int .i64 q1, .int .i64 q2, .int .i64 q3, .int .i64 q4, .int .i64 q5, .int .i64 q6, .int .i64 q7, .int .i64 q8, .int .i64 q9, .int .i64 q10, .int .i64 q11, .int .i64 q12] RQ.out ?_ ?_ ?_ ?_ ?_ ?_); (· rfl); (· rfl); (· first | rfl | simp [Act.eval]); (· exact ⟨_, rfl, rfl⟩); (· kernel_rfl)) | ((with_reducible refine Mid.str 28 (.tmp 16) (.tmp 60) wr.heap.size 28 #[.int .i64 0, .int .i64 0, .int .i64 0, .int .i64 0, .int .i64 0, .int .i64 0, .int .i64 0, .int .i64 0, .int .i64 0, .int .i64 0, .int .i64 0, .int .i64 0] #[.int .i64 q1, .int .i64 q2, .int .i64 q3, .int .i64 q4, .int .i64 q5, .int .i64 q6, .int .i64 q7, .int .i64 q8, .int .i64 q9, .int .i64 q10, .int .i64 q11, .int .i64 q12] (heap_alloc_new wr _) ?_ ?_ ?_ ?_ ?_ ?_ ?_ ?_); (· rfl); (· rfl); (· first | rfl | simp [Act.eval]); (· first | rfl | simp [Act.eval]); (· kernel_rfl); (· rfl); (· simp [Value.oneCell'])))
          try simp only [Act.put]
          have N10 : Below wr.heap.size wr ((wr.alloc (.cells #[.int .i64 0, .int .i64 0, .int .i64 0, .int .i64 0, .int .i64 0, .int .i64 0, .int .i64 0, .int .i64 0, .int .i64 0, .int .i64 0, .int .i64 0, .int .i64 0] 28)).setRow wr.heap.size #[.int .i64 q1, .int .i64 q2, .int .i64 q3, .int .i64 q4, .int .i64 q5, .int .i64 q6, .int .i64 q7, .int .i64 q8, .int .i64 q9, .int .i64 q10, .int .i64 q11, .int .i64 q12]) := Mid.below_row (Mis.new_block _) _ _ (Nat.le_refl _)
          have X16 := Lib.hid (show ((wr.alloc (.cells #[.int .i64 0, .int .i64 0, .int .i64 0, .int .i64 0, .int .i64 0, .int .i64 0, .int .i64 0, .int .i64 0, .int .i64 0, .int .i64 0, .int .i64 0, .int .i64 0] 28)).setRow wr.heap.size #[.int .i64 q1, .int .i64 q2, .int .i64 q3, .int .i64 q4, .int .i64 q5, .int .i64 q6, .int .i64 q7, .int .i64 q8, .int .i64 q9, .int .i64 q10, .int .i64 q11, .int .i64 q12]).heap[wr.heap.size]? = some (.cells #[.int .i64 q1, .int .i64 q2, .int .i64 q3, .int .i64 q4, .int .i64 q5, .int .i64 q6, .int .i64 q7, .int .i64 q8, .int .i64 q9, .int .i64 q10, .int .i64 q11, .int .i64 q12] 28 (0, 0)) from setRow_heap _ _ _ _ _ _ (heap_alloc_new wr _))
          obtain ⟨w10, hw10⟩ : ∃ z, z = (wr.alloc (.cells #[.int .i64 0, .int .i64 0, .int .i64 0, .int .i64 0, .int .i64 0, .int .i64 0, .int .i64 0, .int .i64 0, .int .i64 0, .int .i64 0, .int .i64 0, .int .i64 0] 28)).setRow wr.heap.size #[.int .i64 q1, .int .i64 q2, .int .i64 q3, .int .i64 q4, .int .i64 q5, .int .i64 q6, .int .i64 q7, .int .i64 q8, .int .i64 q9, .int .i64 q10, .int .i64 q11, .int .i64 q12] := ⟨_, rfl⟩
          rw [← hw10] at N10 X16 ⊢
          obtain ⟨p16, hp16⟩ : ∃ z, z = wr.heap.size := ⟨_, rfl⟩
          rw [← hp16] at X16 ⊢
          have B10 := Lib.hid (Buf.then_ BR.out N10)
          clear hw10 hp16 N10 RQ
          go_upto_region 13 with fail
          have e1 : (w10.alloc (.cells #[.int .i64 0] 3)).heap.size = w10.heap.size + 1 := by simp
          have e2 : ((w10.alloc (.cells #[.int .i64 0] 3)).alloc (.cells #[.int .i64 1, .int .i64 0, .int .i64 0] 3)).heap.size = w10.heap.size + 1 + 1 := by simp
          obtain ⟨w11, hw11⟩ : ∃ z, z = ((w10.alloc (.cells #[.int .i64 0] 3)).alloc (.cells #[.int .i64 1, .int .i64 0, .int .i64 0] 3)).alloc (.cells #[.slice aL nL cL, .slice ad nn cc, .slice (some ⟨w10.heap.size, 0, none⟩) 1 1, .slice (some ⟨w10.heap.size + 1, 0, none⟩) 3 3] 22) := ⟨_, rfl⟩
          have N11 : Below w10.heap.size w10 w11 := by rw [hw11]; exact ((Mis.new_block _).alloc (by omega) _).alloc (by omega) _
          have U1 : w11.heap[w10.heap.size]? = some (.cells #[.int .i64 0] 3 (0, 0)) := by rw [hw11]; exact Mis.hb (Mis.new_block _) (Mis.hb (Mis.new_block _) (heap_alloc_new w10 _))
          have U2 : w11.heap[w10.heap.size + 1]? = some (.cells #[.int .i64 1, .int .i64 0, .int .i64 0] 3 (0, 0)) := by rw [hw11, ← e1]; exact Mis.hb (Mis.new_block _) (heap_alloc_new _ _)
          have U3 : w11.heap[w10.heap.size + 1 + 1]? = some (.cells #[.slice aL nL cL, .slice ad nn cc, .slice (some ⟨w10.heap.size, 0, none⟩) 1 1, .slice (some ⟨w10.heap.size + 1, 0, none⟩) 3 3] 22 (0, 0)) := by rw [hw11, ← e2]; exact heap_alloc_new _ _
          have B11 := Lib.hid (Buf.then_ B10.out N11)
          have LK : Hid (∀ j : Nat, j < 4 → ∃ (xd : Option Addr) (xn xc : Nat) (l : List Int), w11.cell? ⟨w10.heap.size + 1 + 1, j, none⟩ = some (.slice xd xn xc) ∧ Lst w11 (.slice xd xn xc) l ∧ l.length ≤ 6001) := Lib.hid fun j hj => by
            rcases (by omega : j = 0 ∨ j = 1 ∨ j = 2 ∨ j = 3) with rfl | rfl | rfl | rfl
            · exact ⟨_, _, _, _, cell_of_row w11 _ 0 _ _ _ U3, LS9.out.below B11.out, LSn.out⟩
            · exact ⟨_, _, _, _, cell_of_row w11 _ 1 _ _ _ U3, LC9.out.below B11.out, by have := hc9.out; omega⟩
            · exact ⟨_, _, _, _, cell_of_row w11 _ 2 _ _ _ U3, lst_blk (c := [0]) U1 rfl, by decide⟩
            · exact ⟨_, _, _, _, cell_of_row w11 _ 3 _ _ _ U3, lst_blk (c := [1, 0, 0]) U2 rfl, by decide⟩
          rw [← hw11]
          obtain ⟨p65, hp65⟩ : ∃ z, z = w10.heap.size + 1 + 1 := ⟨_, rfl⟩
          rw [← hp65] at LK ⊢
          have X16b := Lib.hid (Mis.hb N11 X16.out)
          have hX16 : p16 < w11.heap.size := (Array.getElem?_eq_some_iff.1 X16b.out).1
          have hX65 : p65 < w11.heap.size := by rw [hp65]; exact (Array.getElem?_eq_some_iff.1 U3).1
          clear hw11 hp65 N11 U1 U2 U3 e1 e2 X16 B10
          rename_i pw4i0 pw4i1 pw4i2 pw4i3 pw4i4 pw4i5 pw4i6 pw4i7 pw4i8 pw4i9 pw4i10 pw4i11 pw4i12 pw4i13 pw4i14 pw4i15 pw4i16 pw4i17 pw4i18 pw4i19 pw4i20 pw4i21 pw4i22 pw4i23 pw4i24 pw4i25 pw4i26 pw4i27 pw4i28 pw4i29 pw4i30 pw4i31 pw4i32 pw4i33 pw4i34 pw4i35 pw4i36 pw4i37 pw4i38 pw4i39 pw4i40 pw4i41 pw4i42 pw4i43 pw4i44 pw4i45 pw4i46 pw4i47 pw4i48 pw4i49 pw4i50 pw4i51 pw4i52 pw4i53 pw4i54 pw4i55 pw4i56 pw4i57 pw4i58 pw4i59 pw4i60 pw4i61 pw4i62
          revert a0 len0 cap0 z0 aL nL cL zL r1 r2 r3 r4 r5 r6 r7 r8 r9 r10 r11 r12 w AW wa p5 h5 pw1i0 hlen hi wb m g gw HG w2 A1 A2 A3 D1 D2 D3 s b1 b2 n c1 c2 lo hi' gp cpp L cp nl w3 p8 w4 tol t0 t9 SP BVR X1 X2 X3 Ak pw2i0 u24 u25 u26 u27 u28 u29 u30 u31 u32 u33 u34 u35 u36 u37 u38 u39 u40 u41 u42 u43 u44 u45 u46 u47 u48 u49 u50 u51 u52 u53 u54 pw4i0 pw4i1 pw4i2 pw4i3 pw4i4 pw4i5 pw4i6 pw4i7 pw4i8 pw4i9 pw4i10 pw4i11 pw4i12 pw4i13 pw4i14 pw4i15 pw4i16 pw4i17 pw4i18 pw4i19 pw4i20 pw4i21 pw4i22 pw4i23 pw4i24 pw4i25 pw4i26 pw4i27 pw4i28 pw4i29 pw4i30 pw4i31 pw4i32 pw4i33 pw4i34 pw4i35 pw4i36 pw4i37 pw4i38 pw4i39 pw4i40 pw4i41 pw4i42 pw4i43 pw4i44 pw4i45 pw4i46 pw4i47 pw4i48 pw4i49 pw4i50 pw4i51 pw4i52 pw4i53 pw4i54 pw4i55 pw4i56 pw4i57 pw4i58 pw4i59 u124 u125 u126 u127 u128 u129 u130 u131 u132 u133 u134 u135 u136 p10 er y1 y2 y3 y4 y5 y6 y7 y8 y9 y10 y11 y12 w5 w6 z1 z2 z3 z4 z5 z6 z7 z8 z9 z10 z11 z12 w7 p12 LSn er2 cc_ MOK hc9 w8 ad nn cc hnn pw3i0 pw3i1 w9 p55 X55 K89 X129 B9 LC9 LS9 LB9 G ATC G0 CHK wr u6 u16 u18 u20 u21 u22 u23 u58 u59 u60 u61 u62 u63 u64 u65 u66 u67 u68 u69 u70 u71 u72 u73 u74 u75 u76 u77 u78 u79 u80 u81 u82 u83 u84 u85 u86 u87 u88 u89 u90 u91 u92 u93 u94 u95 u96 u97 u98 u99 u100 u101 u102 u103 u104 u105 u106 u107 u108 u109 u110 u111 u112 u113 u114 u115 u116 u117 u118 u119 u120 u121 u122 u123 k hk BR hlt kn q1 q2 q3 q4 q5 q6 q7 q8 q9 q10 q11 q12 pw4i60 pw4i61 pw4i62 w10 p16 w11 B11 p65 LK X16b hX16 hX65
          exact hck_pw4.out
        · obtain rfl : k = 3 := by omega
          rename_i pw6i0 pw6i1 pw6i2 pw6i3 pw6i4 pw6i5 pw6i6 pw6i7 pw6i8 pw6i9 pw6i10 pw6i11 pw6i12 pw6i13 pw6i14 pw6i15 pw6i16 pw6i17 pw6i18 pw6i19 pw6i20 pw6i21 pw6i22 pw6i23 pw6i24 pw6i25 pw6i26 pw6i27 pw6i28 pw6i29 pw6i30 pw6i31 pw6i32 pw6i33 pw6i34 pw6i35 pw6i36 pw6i37 pw6i38 pw6i39 pw6i40 pw6i41 pw6i42 pw6i43 pw6i44 pw6i45 pw6i46 pw6i47 pw6i48 pw6i49 pw6i50 pw6i51 pw6i52 pw6i53 pw6i54 pw6i55 pw6i56 pw6i57 pw6i58 pw6i59
          revert a0 len0 cap0 z0 aL nL cL zL r1 r2 r3 r4 r5 r6 r7 r8 r9 r10 r11 r12 w AW wa p5 h5 pw1i0 hlen hi wb m g gw HG w2 A1 A2 A3 D1 D2 D3 s b1 b2 n c1 c2 lo hi' gp cpp L cp nl w3 p8 w4 tol t0 t9 SP BVR X1 X2 X3 Ak pw2i0 u24 u25 u26 u27 u28 u29 u30 u31 u32 u33 u34 u35 u36 u37 u38 u39 u40 u41 u42 u43 u44 u45 u46 u47 u48 u49 u50 u51 u52 u53 u54 pw6i0 pw6i1 pw6i2 pw6i3 pw6i4 pw6i5 pw6i6 pw6i7 pw6i8 pw6i9 pw6i10 pw6i11 pw6i12 pw6i13 pw6i14 pw6i15 pw6i16 pw6i17 pw6i18 pw6i19 pw6i20 pw6i21 pw6i22 pw6i23 pw6i24 pw6i25 pw6i26 pw6i27 pw6i28 pw6i29 pw6i30 pw6i31 pw6i32 pw6i33 pw6i34 pw6i35 pw6i36 pw6i37 pw6i38 pw6i39 pw6i40 pw6i41 pw6i42 pw6i43 pw6i44 pw6i45 pw6i46 pw6i47 pw6i48 pw6i49 pw6i50 pw6i51 pw6i52 pw6i53 pw6i54 pw6i55 pw6i56 pw6i57 pw6i58 pw6i59 u124 u125 u126 u127 u128 u129 u130 u131 u132 u133 u134 u135 u136 p10 er y1 y2 y3 y4 y5 y6 y7 y8 y9 y10 y11 y12 w5 w6 z1 z2 z3 z4 z5 z6 z7 z8 z9 z10 z11 z12 w7 p12 LSn er2 cc_ MOK hc9 w8 ad nn cc hnn pw3i0 pw3i1 w9 p55 X55 K89 X129 B9 LC9 LS9 LB9 G ATC G0 CHK wr u6 u16 u18 u20 u21 u22 u23 u58 u59 u60 u61 u62 u63 u64 u65 u66 u67 u68 u69 u70 u71 u72 u73 u74 u75 u76 u77 u78 u79 u80 u81 u82 u83 u84 u85 u86 u87 u88 u89 u90 u91 u92 u93 u94 u95 u96 u97 u98 u99 u100 u101 u102 u103 u104 u105 u106 u107 u108 u109 u110 u111 u112 u113 u114 u115 u116 u117 u118 u119 u120 u121 u122 u123 BR hk hlt
          exact hck_pw6.out
set_option maxHeartbeats 16000000 in
set_option maxRecDepth 100000 in
noncomputable def ck_pw4 : (P_pw5 : Prop) ×' (Ckp P_pw5 → ck_pw3.1) := by
  apply PSigma.mk
  case snd =>
    intro hck_pw5
    intro a0 len0 cap0 z0 aL nL cL zL r1 r2 r3 r4 r5 r6
      r7 r8 r9 r10 r11 r12 w AW wa p5 h5 pw1i0 hlen hi
      wb m g gw HG w2 A1 A2 A3 D1 D2 D3 s b1
      b2 n c1 c2 lo hi' gp cpp L cp nl w3 p8 w4
      tol t0 t9 SP BVR X1 X2 X3 Ak pw2i0 u24 u25 u26 u27
      u28 u29 u30 u31 u32 u33 u34 u35 u36 u37 u38 u39 u40 u41
      u42 u43 u44 u45 u46 u47 u48 u49 u50 u51 u52 u53 u54 pw4i0
      pw4i1 pw4i2 pw4i3 pw4i4 pw4i5 pw4i6 pw4i7 pw4i8 pw4i9 pw4i10 pw4i11 pw4i12 pw4i13 pw4i14
      pw4i15 pw4i16 pw4i17 pw4i18 pw4i19 pw4i20 pw4i21 pw4i22 pw4i23 pw4i24 pw4i25 pw4i26 pw4i27 pw4i28
      pw4i29 pw4i30 pw4i31 pw4i32 pw4i33 pw4i34 pw4i35 pw4i36 pw4i37 pw4i38 pw4i39 pw4i40 pw4i41 pw4i42
      pw4i43 pw4i44 pw4i45 pw4i46 pw4i47 pw4i48 pw4i49 pw4i50 pw4i51 pw4i52 pw4i53 pw4i54 pw4i55 pw4i56
      pw4i57 pw4i58 pw4i59 u124 u125 u126 u127 u128 u129 u130 u131 u132 u133 u134
      u135 u136 p10 er y1 y2 y3 y4 y5 y6 y7 y8 y9 y10
      y11 y12 w5 w6 z1 z2 z3 z4 z5 z6 z7 z8 z9 z10
      z11 z12 w7 p12 LSn er2 cc_ MOK hc9 w8 ad nn cc hnn
      pw3i0 pw3i1 w9 p55 X55 K89 X129 B9 LC9 LS9 LB9 G ATC G0
      CHK wr u6 u16 u18 u20 u21 u22 u23 u58 u59 u60 u61 u62
      u63 u64 u65 u66 u67 u68 u69 u70 u71 u72 u73 u74 u75 u76
      u77 u78 u79 u80 u81 u82 u83 u84 u85 u86 u87 u88 u89 u90
      u91 u92 u93 u94 u95 u96 u97 u98 u99 u100 u101 u102 u103 u104
      u105 u106 u107 u108 u109 u110 u111 u112 u113 u114 u115 u116 u117 u118
      u119 u120 u121 u122 u123 k hk BR hlt kn q1 q2 q3 q4
      q5 q6 q7 q8 q9 q10 q11 q12 pw4i60 pw4i61 pw4i62 w10 p16 w11
      B11 p65 LK X16b hX16 hX65
    go_loopw [67] (fun i w2 => ∃ j : Nat, j ≤ 4 ∧ i = .int .i64 j ∧ Hid (Below w11.heap.size w11 w2)) (fun i _ => 4 - (intOf i).toNat)
    case atStart => exact ⟨0, by omega, rfl, Lib.hid (Below.refl _ _)⟩
    case round =>
      obtain ⟨ws, rfl⟩ : ∃ z : World, z = wr := ⟨_, rfl⟩
      obtain ⟨j, hj, rfl, BS⟩ := hrel
      by_cases hlt2 : j < 4
      · have jn : (j : Int) < 4 := by omega
        obtain ⟨xd, xn, xc, l, cj, LX, lx9⟩ := LK.out j hlt2
        have cj2 : ws.cell? ⟨p65, j, none⟩ = some (.slice xd xn xc) := (BS.out.cell hX65).trans cj
        have K8s := Lib.hid (Mis.hb (Buf.then_ B11.out BS.out) K89.out)
        have X16s := Lib.hid (Mis.hb BS.out X16b.out)
        obtain ⟨r, CK, CR⟩ := CHK.out q1 q2 q3 q4 q5 q6 q7 q8 q9 q10 q11 q12 ws (Buf.then_ B11.out BS.out) _ l (LX.below BS.out) lx9
        replace CK := Lib.hid CK
        replace CR := Lib.hid CR
        clear cj LX lx9
        go_upto_region 15 with fail
        clear cj2
        by_cases hr0 : r = 0
        · subst hr0
          go_upto_region 16 with (first | ((with_reducible refine Mid.ldr 36 (.tmp 8) p8 36 #[.int .i64 A1, .int .i64 A2, .int .i64 A3, .int .i64 D1, .int .i64 D2, .int .i64 D3, .int .i64 s, .slice (some ⟨b1, 0, none⟩) n c1, .slice (some ⟨b2, 0, none⟩) n c2, .slice (some ⟨gp, 0, none⟩) nl cpp, .int .i64 cp] K8s.out ?_ ?_ ?_ ?_ ?_ ?_); (· rfl); (· rfl); (· first | rfl | simp [Act.eval]); (· exact ⟨_, rfl, rfl⟩); (· kernel_rfl)) | ((with_reducible refine Mid.ldr 28 (.tmp 16) p16 28 #[.int .i64 q1, .int .i64 q2, .int .i64 q3, .int .i64 q4, .int .i64 q5, .int .i64 q6, .int .i64 q7, .int .i64 q8, .int .i64 q9, .int .i64 q10, .int .i64 q11, .int .i64 q12] X16s.out ?_ ?_ ?_ ?_ ?_ ?_); (· rfl); (· rfl); (· first | rfl | simp [Act.eval]); (· exact ⟨_, rfl, rfl⟩); (· kernel_rfl)) | (go_at_call 11; refine (CK.out _ (Below.refl _ _)).mono ?_; rintro e w12 ⟨rfl, b12⟩; have B12 := Lib.hid (Buf.then_ BS.out b12); clear b12))
          rename_i pw5i0 pw5i1 pw5i2 pw5i3 pw5i4 pw5i5 pw5i6 pw5i7 pw5i8 pw5i9 pw5i10 pw5i11 pw5i12 pw5i13 pw5i14 pw5i15 pw5i16 pw5i17 pw5i18 pw5i19 pw5i20 pw5i21 pw5i22 pw5i23 pw5i24 pw5i25 pw5i26 pw5i27 pw5i28 pw5i29 pw5i30 pw5i31 pw5i32 pw5i33 pw5i34 pw5i35 pw5i36 pw5i37 pw5i38 pw5i39 pw5i40 pw5i41 pw5i42 pw5i43 pw5i44 pw5i45 pw5i46 pw5i47 pw5i48 pw5i49 pw5i50 pw5i51 pw5i52 pw5i53 pw5i54 pw5i55 pw5i56 pw5i57 pw5i58 pw5i59 pw5i60 pw5i61 pw5i62 pw5i63 pw5i64 pw5i65
          revert a0 len0 cap0 z0 aL nL cL zL r1 r2 r3 r4 r5 r6 r7 r8 r9 r10 r11 r12 w AW wa p5 h5 pw1i0 hlen hi wb m g gw HG w2 A1 A2 A3 D1 D2 D3 s b1 b2 n c1 c2 lo hi' gp cpp L cp nl w3 p8 w4 tol t0 t9 SP BVR X1 X2 X3 Ak pw2i0 u24 u25 u26 u27 u28 u29 u30 u31 u32 u33 u34 u35 u36 u37 u38 u39 u40 u41 u42 u43 u44 u45 u46 u47 u48 u49 u50 u51 u52 u53 u54 pw4i0 pw4i1 pw4i2 pw4i3 pw4i4 pw4i5 pw4i6 pw4i7 pw4i8 pw4i9 pw4i10 pw4i11 pw4i12 pw4i13 pw4i14 pw4i15 pw4i16 pw4i17 pw4i18 pw4i19 pw4i20 pw4i21 pw4i22 pw4i23 pw4i24 pw4i25 pw4i26 pw4i27 pw4i28 pw4i29 pw4i30 pw4i31 pw4i32 pw4i33 pw4i34 pw4i35 pw4i36 pw4i37 pw4i38 pw4i39 pw4i40 pw4i41 pw4i42 pw4i43 pw4i44 pw4i45 pw4i46 pw4i47 pw4i48 pw4i49 pw4i50 pw4i51 pw4i52 pw4i53 pw4i54 pw4i55 pw4i56 pw4i57 pw4i58 pw4i59 u124 u125 u126 u127 u128 u129 u130 u131 u132 u133 u134 u135 u136 p10 er y1 y2 y3 y4 y5 y6 y7 y8 y9 y10 y11 y12 w5 w6 z1 z2 z3 z4 z5 z6 z7 z8 z9 z10 z11 z12 w7 p12 LSn er2 cc_ MOK hc9 w8 ad nn cc hnn pw3i0 pw3i1 w9 p55 X55 K89 X129 B9 LC9 LS9 LB9 G ATC G0 CHK wr pw5i0 u16 pw5i1 pw5i2 pw5i3 pw5i4 pw5i5 u58 u59 u60 u61 u62 u63 u64 u65 u66 u67 pw5i6 pw5i7 pw5i8 pw5i9 pw5i10 pw5i11 pw5i12 pw5i13 pw5i14 pw5i15 pw5i16 pw5i17 pw5i18 pw5i19 pw5i20 pw5i21 pw5i22 pw5i23 pw5i24 pw5i25 pw5i26 pw5i27 pw5i28 pw5i29 pw5i30 pw5i31 pw5i32 pw5i33 pw5i34 pw5i35 pw5i36 pw5i37 pw5i38 pw5i39 pw5i40 pw5i41 pw5i42 pw5i43 pw5i44 pw5i45 pw5i46 pw5i47 pw5i48 pw5i49 pw5i50 pw5i51 pw5i52 pw5i53 pw5i54 pw5i55 pw5i56 pw5i57 pw5i58 pw5i59 pw5i60 u123 k hk BR hlt kn q1 q2 q3 q4 q5 q6 q7 q8 q9 q10 q11 q12 pw4i60 pw4i61 pw4i62 w10 p16 w11 B11 p65 LK X16b hX16 hX65 u6 u18 u20 u21 u22 u23 u68 u69 u70 u71 u72 u73 u74 u75 u76 u77 u78 u79 u80 u81 u82 u83 u84 u85 u86 u87 u88 u89 u90 u91 u92 u93 u94 u95 u96 u97 u98 u99 u100 u101 u102 u103 u104 u105 u106 u107 u108 u109 u110 u111 u112 u113 u114 u115 u116 u117 u118 u119 u120 u121 u122 ws j hj BS hlt2 jn xd xn xc l K8s X16s pw5i61 pw5i62 pw5i63 CK w12 B12 CR pw5i64 pw5i65
          exact hck_pw5.out
        · have e0 : (r != 0) = true := by simp [hr0]
          clear CR
          clear hck_pw5
          go_upto_region 16 with (first | ((with_reducible refine Mid.ldr 36 (.tmp 8) p8 36 #[.int .i64 A1, .int .i64 A2, .int .i64 A3, .int .i64 D1, .int .i64 D2, .int .i64 D3, .int .i64 s, .slice (some ⟨b1, 0, none⟩) n c1, .slice (some ⟨b2, 0, none⟩) n c2, .slice (some ⟨gp, 0, none⟩) nl cpp, .int .i64 cp] K8s.out ?_ ?_ ?_ ?_ ?_ ?_); (· rfl); (· rfl); (· first | rfl | simp [Act.eval]); (· exact ⟨_, rfl, rfl⟩); (· kernel_rfl)) | ((with_reducible refine Mid.ldr 28 (.tmp 16) p16 28 #[.int .i64 q1, .int .i64 q2, .int .i64 q3, .int .i64 q4, .int .i64 q5, .int .i64 q6, .int .i64 q7, .int .i64 q8, .int .i64 q9, .int .i64 q10, .int .i64 q11, .int .i64 q12] X16s.out ?_ ?_ ?_ ?_ ?_ ?_); (· rfl); (· rfl); (· first | rfl | simp [Act.eval]); (· exact ⟨_, rfl, rfl⟩); (· kernel_rfl)) | (go_at_call 11; refine (CK.out _ (Below.refl _ _)).mono ?_; rintro e w12 ⟨rfl, b12⟩; have B12 := Lib.hid (Buf.then_ BS.out b12); clear b12))
          go_wp2_with fail
          go_roundw
          case rel => exact ⟨j + 1, by omega, by go_num, B12⟩
          case measure => simp [intOf]; omega
      · obtain rfl : j = 4 := by omega
        go_wp2_with fail
        go_roundw
        case rel => exact ⟨k + 1, by omega, by go_num, Lib.hid (Buf.then_ B11.out BS.out)⟩
        case measure => simp [intOf]; omega
set_option maxHeartbeats 16000000 in
set_option maxRecDepth 100000 in
theorem ck_pw5 : ck_pw4.1 := by
  intro a0 len0 cap0 z0 aL nL cL zL r1 r2 r3 r4 r5 r6
    r7 r8 r9 r10 r11 r12 w AW wa p5 h5 pw1i0 hlen hi
    wb m g gw HG w2 A1 A2 A3 D1 D2 D3 s b1
    b2 n c1 c2 lo hi' gp cpp L cp nl w3 p8 w4
    tol t0 t9 SP BVR X1 X2 X3 Ak pw2i0 u24 u25 u26 u27
    u28 u29 u30 u31 u32 u33 u34 u35 u36 u37 u38 u39 u40 u41
    u42 u43 u44 u45 u46 u47 u48 u49 u50 u51 u52 u53 u54 pw4i0
    pw4i1 pw4i2 pw4i3 pw4i4 pw4i5 pw4i6 pw4i7 pw4i8 pw4i9 pw4i10 pw4i11 pw4i12 pw4i13 pw4i14
    pw4i15 pw4i16 pw4i17 pw4i18 pw4i19 pw4i20 pw4i21 pw4i22 pw4i23 pw4i24 pw4i25 pw4i26 pw4i27 pw4i28
    pw4i29 pw4i30 pw4i31 pw4i32 pw4i33 pw4i34 pw4i35 pw4i36 pw4i37 pw4i38 pw4i39 pw4i40 pw4i41 pw4i42
    pw4i43 pw4i44 pw4i45 pw4i46 pw4i47 pw4i48 pw4i49 pw4i50 pw4i51 pw4i52 pw4i53 pw4i54 pw4i55 pw4i56
    pw4i57 pw4i58 pw4i59 u124 u125 u126 u127 u128 u129 u130 u131 u132 u133 u134
    u135 u136 p10 er y1 y2 y3 y4 y5 y6 y7 y8 y9 y10
    y11 y12 w5 w6 z1 z2 z3 z4 z5 z6 z7 z8 z9 z10
    z11 z12 w7 p12 LSn er2 cc_ MOK hc9 w8 ad nn cc hnn
    pw3i0 pw3i1 w9 p55 X55 K89 X129 B9 LC9 LS9 LB9 G ATC G0
    CHK wr pw5i0 u16 pw5i1 pw5i2 pw5i3 pw5i4 pw5i5 u58 u59 u60 u61 u62
    u63 u64 u65 u66 u67 pw5i6 pw5i7 pw5i8 pw5i9 pw5i10 pw5i11 pw5i12 pw5i13 pw5i14
    pw5i15 pw5i16 pw5i17 pw5i18 pw5i19 pw5i20 pw5i21 pw5i22 pw5i23 pw5i24 pw5i25 pw5i26 pw5i27 pw5i28
    pw5i29 pw5i30 pw5i31 pw5i32 pw5i33 pw5i34 pw5i35 pw5i36 pw5i37 pw5i38 pw5i39 pw5i40 pw5i41 pw5i42
    pw5i43 pw5i44 pw5i45 pw5i46 pw5i47 pw5i48 pw5i49 pw5i50 pw5i51 pw5i52 pw5i53 pw5i54 pw5i55 pw5i56
    pw5i57 pw5i58 pw5i59 pw5i60 u123 k hk BR hlt kn q1 q2 q3 q4
    q5 q6 q7 q8 q9 q10 q11 q12 pw4i60 pw4i61 pw4i62 w10 p16 w11
    B11 p65 LK X16b hX16 hX65 u6 u18 u20 u21 u22 u23 u68 u69
    u70 u71 u72 u73 u74 u75 u76 u77 u78 u79 u80 u81 u82 u83
    u84 u85 u86 u87 u88 u89 u90 u91 u92 u93 u94 u95 u96 u97
    u98 u99 u100 u101 u102 u103 u104 u105 u106 u107 u108 u109 u110 u111
    u112 u113 u114 u115 u116 u117 u118 u119 u120 u121 u122 ws j hj
    BS hlt2 jn xd xn xc l K8s X16s pw5i61 pw5i62 pw5i63 CK w12
    B12 CR pw5i64 pw5i65
  obtain ⟨m0, m9, hall⟩ := (by first | exact CR.out rfl | exact CR.out trivial : 0 ≤ q5 ∧ q5 ≤ 1125899906842624 ∧ ∀ p, inB ⟨A1, A2, A3, D1, D2, D3⟩ p → q6 ≤ (G p).2 ∧ q5 - tol ≤ (G p).2 ∧ ((G p).2 < q5 → Geo.coV q7 q8 q9 q10 q11 q12 p.1 p.2.1 p.2.2 = true))
  have bv := BVR.out
  obtain ⟨_, _, hx, hy, hz⟩ := id bv
  obtain ⟨NX, hNX⟩ : ∃ X : Nat, (X : Int) = D1 - A1 + 1 := ⟨(D1 - A1 + 1).toNat, by omega⟩
  obtain ⟨NY, hNY⟩ : ∃ X : Nat, (X : Int) = D2 - A2 + 1 := ⟨(D2 - A2 + 1).toNat, by omega⟩
  obtain ⟨NZ, hNZ⟩ : ∃ X : Nat, (X : Int) = D3 - A3 + 1 := ⟨(D3 - A3 + 1).toNat, by omega⟩
  have ALL := Lib.hid (Geo.all_any A1 A2 A3 D1 D2 D3 NX NY NZ hNX hNY hNZ bv (by omega) (by omega) (by omega))
  have hmem : Hid (∀ p, p ∈ Geo.Fs A1 A2 A3 NY NZ NX ↔ inB ⟨A1, A2, A3, D1, D2, D3⟩ p) := Lib.hid fun p => by
    rw [Geo.Fs_mem]; show _ ↔ (A1 ≤ p.1 ∧ p.1 ≤ D1 ∧ A2 ≤ p.2.1 ∧ p.2.1 ≤ D2 ∧ A3 ≤ p.2.2 ∧ p.2.2 ≤ D3); omega
  have hpt : 1 ≤ (Geo.Fs A1 A2 A3 NY NZ NX).length ∧ (Geo.Fs A1 A2 A3 NY NZ NX).length ≤ 1000 := by
    rw [Geo.Fs_length]
    have h1 : NY * NZ ≤ 6 * 6 := Nat.mul_le_mul (by omega) (by omega)
    have h2 : NX * (NY * NZ) ≤ 6 * (6 * 6) := Nat.mul_le_mul (by omega) h1
    have h3 : 1 * 1 ≤ NY * NZ := Nat.mul_le_mul (by omega) (by omega)
    have h4 : 1 * 1 ≤ NX * (NY * NZ) := Nat.mul_le_mul (by omega) (by omega)
    omega
  have K8t := Lib.hid (Mis.hb (Buf.then_ B11.out B12.out) K89.out)
  have X16t := Lib.hid (Mis.hb B12.out X16b.out)
  have RX := Lib.hid (Mid.range K8t.out 0 [.int .i64 A1, .int .i64 A2, .int .i64 A3, .int .i64 D1, .int .i64 D2, .int .i64 D3] (by rfl))
  have HALL : Hid (∀ p, inB ⟨A1, A2, A3, D1, D2, D3⟩ p → q6 ≤ (G p).2 ∧ q5 - tol ≤ (G p).2 ∧ ((G p).2 < q5 → Geo.coV q7 q8 q9 q10 q11 q12 p.1 p.2.1 p.2.2 = true)) := Lib.hid hall
  generalize Geo.Fs A1 A2 A3 NY NZ NX = lp at *
  clear hall CR hNX hNY hNZ hx hy hz bv CK K8s X16s
  go_upto_region 17 with (first | ((with_reducible refine Mid.ldm 26 (.tmp 77) p8 0 [.int .i64 A1, .int .i64 A2, .int .i64 A3, .int .i64 D1, .int .i64 D2, .int .i64 D3] RX.out ?_ ?_ ?_ ?_ ?_ ?_); (· rfl); (· rfl); (· first | rfl | simp [Act.eval]); (· exact ⟨_, rfl, rfl⟩); (· kernel_rfl)) | (go_at_call 12; refine (ALL.out _).mono ?_; rintro e w13 ⟨⟨v, rfl, own⟩, b13⟩; obtain ⟨vn, hvn⟩ : ∃ z, z = lp.length := ⟨_, rfl⟩; rw [← hvn] at own; obtain ⟨pv, vc, rfl⟩ : ∃ gg gc, v = .slice (some ⟨gg, 0, none⟩) vn gc := (by rcases Mis.own_shape own with ⟨_, h0⟩ | ⟨gg, gc, h1, _⟩ <;> first | exact ⟨gg, gc, h1⟩ | (exfalso; omega)); have n1' : 1 ≤ vn := (by omega); have n9' : vn ≤ 1000 := (by omega); replace hvn := Lib.hid hvn; have OW := Lib.hid own; have B13 := Lib.hid (Buf.then_ B12.out b13); have K8u := Lib.hid (Mis.hb b13 K8t.out); have X16u := Lib.hid (Mis.hb b13 X16t.out); clear own b13))
  clear ALL hpt RX K8t X16t
  go_loopw [81] (fun i w3 => ∃ t : Nat, t ≤ vn ∧ i = .int .i64 t ∧ Hid (Below w13.heap.size w13 w3)) (fun i _ => vn - (intOf i).toNat)
  case atStart => exact ⟨0, by omega, rfl, Lib.hid (Below.refl _ _)⟩
  case round =>
    obtain ⟨wt, rfl⟩ : ∃ z : World, z = wr := ⟨_, rfl⟩
    obtain ⟨t, ht, rfl, BT⟩ := hrel
    by_cases hlt3 : t < vn
    · have tn : (t : Int) < vn := by omega
      have hkl : t < lp.length := by rw [← hvn.out]; exact hlt3
      obtain ⟨p, hp⟩ : ∃ p, lp[t]? = some p := ⟨lp[t], List.getElem?_eq_getElem hkl⟩
      have hin := (hmem.out p).1 (List.mem_of_getElem? hp)
      have A1c := ATC.out
      obtain ⟨g0, g9⟩ := G0.out p hin
      obtain ⟨ha1, ha2, ha3⟩ := HALL.out p hin
      obtain ⟨d0, d1, d2⟩ := Row3.cells_get lp t p hp
      have hc := fun i u (h : (Row3.cells lp)[i]? = some u) => World.ownsRow.cells (g := pv) (Mis.own_below OW.out BT.out) rfl i u h
      have c0 := hc _ _ d0
      have c1' := hc _ _ d1
      have c2' := hc _ _ d2
      rw [Addr.add_lit, Nat.zero_add] at c0 c1' c2'
      obtain ⟨x1, x2, x3⟩ := p
      dsimp only at c0 c1' c2' ha3
      obtain ⟨tt, htt⟩ : ∃ z, z = (G (x1, x2, x3)).1 := ⟨_, rfl⟩
      obtain ⟨cost, hcost⟩ : ∃ z, z = (G (x1, x2, x3)).2 := ⟨_, rfl⟩
      rw [← hcost] at g0 g9 ha1 ha2 ha3
      replace hin := Lib.hid hin
      replace htt := Lib.hid htt
      replace hcost := Lib.hid hcost
      clear hc d0 d1 d2 hkl hp A1c
      go_upto_region 19 with fail
      obtain ⟨w14, hw14⟩ : ∃ z, z = wt.alloc (.cells #[.int .i64 x1, .int .i64 x2, .int .i64 x3] 24) := ⟨_, rfl⟩
      have N14 : Below wt.heap.size wt w14 := by rw [hw14]; exact Mis.new_block _
      have Q14 := Lib.hid (show w14.heap[wt.heap.size]? = some (.cells #[.int .i64 x1, .int .i64 x2, .int .i64 x3] 24 (0, 0)) by rw [hw14]; exact heap_alloc_new wt _)
      rw [← hw14]
      obtain ⟨p20, hp20⟩ : ∃ z, z = wt.heap.size := ⟨_, rfl⟩
      rw [← hp20] at Q14 ⊢
      have B14 := Lib.hid (Buf.then_ BT.out N14)
      have K8v := Lib.hid (Mis.hb B14.out K8u.out)
      have X16v := Lib.hid (Mis.hb B14.out X16u.out)
      have A14 : Hid (Calls Try.prog 13 #[.agg #[.int .i64 A1, .int .i64 A2, .int .i64 A3, .int .i64 D1, .int .i64 D2, .int .i64 D3, .int .i64 s, .slice (some ⟨b1, 0, none⟩) n c1, .slice (some ⟨b2, 0, none⟩) n c2, .slice (some ⟨gp, 0, none⟩) nl cpp, .int .i64 cp], .agg #[.int .i64 x1, .int .i64 x2, .int .i64 x3]] w14 fun e w'' => e = .returned (.tuple #[.int .i64 tt, .int .i64 cost, .int .i64 0]) ∧ Below w14.heap.size w14 w'') := Lib.hid (by rw [htt.out, hcost.out]; exact ATC.out w14 (Buf.then_ B11.out (Buf.then_ B13.out B14.out)) (x1, x2, x3) hin.out)
      clear hw14 hp20 N14 c0 c1' c2'
      go_upto_region 20 with (first | ((with_reducible refine Mid.ldr 36 (.tmp 8) p8 36 #[.int .i64 A1, .int .i64 A2, .int .i64 A3, .int .i64 D1, .int .i64 D2, .int .i64 D3, .int .i64 s, .slice (some ⟨b1, 0, none⟩) n c1, .slice (some ⟨b2, 0, none⟩) n c2, .slice (some ⟨gp, 0, none⟩) nl cpp, .int .i64 cp] K8v.out ?_ ?_ ?_ ?_ ?_ ?_); (· rfl); (· rfl); (· first | rfl | simp [Act.eval]); (· exact ⟨_, rfl, rfl⟩); (· kernel_rfl)) | ((with_reducible refine Mid.ldr 24 (.tmp 20) p20 24 #[.int .i64 x1, .int .i64 x2, .int .i64 x3] Q14.out ?_ ?_ ?_ ?_ ?_ ?_); (· rfl); (· rfl); (· first | rfl | simp [Act.eval]); (· exact ⟨_, rfl, rfl⟩); (· kernel_rfl)) | (go_at_call 13; refine A14.out.mono ?_; rintro e w15 ⟨rfl, b15⟩; have B15 := Lib.hid (Buf.then_ B14.out b15); have X16w := Lib.hid (Mis.hb b15 X16v.out); have Q15 := Lib.hid (Mis.hb b15 Q14.out); clear b15))
      have e4 : w15.cell? ⟨p16, 4, none⟩ = some (.int .i64 q5) := cell_of_row w15 p16 4 _ _ _ X16w.out
      have e5 : w15.cell? ⟨p16, 5, none⟩ = some (.int .i64 q6) := cell_of_row w15 p16 5 _ _ _ X16w.out
      have RAA := Lib.hid (Mid.range X16w.out 6 [.int .i64 q7, .int .i64 q8, .int .i64 q9, .int .i64 q10, .int .i64 q11, .int .i64 q12] (by rfl))
      have f1 : decide (cost < q6) = false := decide_eq_false (by omega)
      have f2 : decide (cost < q5 - tol) = false := decide_eq_false (by omega)
      have ew : IntKind.i64.wrap (q5 - tol) = q5 - tol := by go_unwrap
      clear A14 K8v X16v Q14 B14
      by_cases hc : cost < q5
      · have f3 : decide (cost < q5) = true := decide_eq_true hc
        have CO := Lib.hid (Geo.rcontains_any q7 q8 q9 q10 q11 q12 x1 x2 x3)
        have ha := ha3 hc
        rw [show Geo.coV q7 q8 q9 q10 q11 q12 x1 x2 x3 = true from ha] at CO
        clear ha3 ha ha1 ha2
        go_wp2_with (first | ((with_reducible refine Loc.ldmg 26 (.tmp 114) p16 6 [.int .i64 q7, .int .i64 q8, .int .i64 q9, .int .i64 q10, .int .i64 q11, .int .i64 q12] RAA.out ?_ ?_ ?_ ?_ ?_ ?_); (· rfl); (· first | rfl | simp [Region.wanted, yielded]); (· first | rfl | simp [Act.eval]); (· exact ⟨_, rfl, rfl⟩); (· kernel_rfl)) | ((with_reducible refine Mid.ldrg 24 (.tmp 20) p20 24 #[.int .i64 x1, .int .i64 x2, .int .i64 x3] Q15.out ?_ ?_ ?_ ?_ ?_ ?_); (· rfl); (· first | rfl | simp [Region.wanted, yielded]); (· first | rfl | simp [Act.eval]); (· exact ⟨_, rfl, rfl⟩); (· kernel_rfl)) | (go_at_call 14; refine (CO.out _).mono ?_; rintro e w16 ⟨rfl, b16⟩))
        go_roundw
        case rel => exact ⟨t + 1, by omega, by go_num, Lib.hid (Buf.then_ B15.out b16)⟩
        case measure => simp [intOf]; omega
      · have f3 : decide (cost < q5) = false := decide_eq_false hc
        clear ha3 ha1 ha2
        go_wp2_with fail
        go_roundw
        case rel => exact ⟨t + 1, by omega, by go_num, B15⟩
        case measure => simp [intOf]; omega
    · obtain rfl : t = vn := by omega
      have BJ := Lib.hid (Buf.then_ B13.out BT.out)
      go_wp2_with fail
      go_roundw
      case rel => exact ⟨j + 1, by omega, by go_num, BJ⟩
      case measure => simp [intOf]; omega
set_option maxHeartbeats 16000000 in
set_option maxRecDepth 100000 in
theorem ck_pw6 : ck_pw3.2.1 := by
  intro a0 len0 cap0 z0 aL nL cL zL r1 r2 r3 r4 r5 r6
    r7 r8 r9 r10 r11 r12 w AW wa p5 h5 pw1i0 hlen hi
    wb m g gw HG w2 A1 A2 A3 D1 D2 D3 s b1
    b2 n c1 c2 lo hi' gp cpp L cp nl w3 p8 w4
    tol t0 t9 SP BVR X1 X2 X3 Ak pw2i0 u24 u25 u26 u27
    u28 u29 u30 u31 u32 u33 u34 u35 u36 u37 u38 u39 u40 u41
    u42 u43 u44 u45 u46 u47 u48 u49 u50 u51 u52 u53 u54 pw6i0
    pw6i1 pw6i2 pw6i3 pw6i4 pw6i5 pw6i6 pw6i7 pw6i8 pw6i9 pw6i10 pw6i11 pw6i12 pw6i13 pw6i14
    pw6i15 pw6i16 pw6i17 pw6i18 pw6i19 pw6i20 pw6i21 pw6i22 pw6i23 pw6i24 pw6i25 pw6i26 pw6i27 pw6i28
    pw6i29 pw6i30 pw6i31 pw6i32 pw6i33 pw6i34 pw6i35 pw6i36 pw6i37 pw6i38 pw6i39 pw6i40 pw6i41 pw6i42
    pw6i43 pw6i44 pw6i45 pw6i46 pw6i47 pw6i48 pw6i49 pw6i50 pw6i51 pw6i52 pw6i53 pw6i54 pw6i55 pw6i56
    pw6i57 pw6i58 pw6i59 u124 u125 u126 u127 u128 u129 u130 u131 u132 u133 u134
    u135 u136 p10 er y1 y2 y3 y4 y5 y6 y7 y8 y9 y10
    y11 y12 w5 w6 z1 z2 z3 z4 z5 z6 z7 z8 z9 z10
    z11 z12 w7 p12 LSn er2 cc_ MOK hc9 w8 ad nn cc hnn
    pw3i0 pw3i1 w9 p55 X55 K89 X129 B9 LC9 LS9 LB9 G ATC G0
    CHK wr u6 u16 u18 u20 u21 u22 u23 u58 u59 u60 u61 u62
    u63 u64 u65 u66 u67 u68 u69 u70 u71 u72 u73 u74 u75 u76
    u77 u78 u79 u80 u81 u82 u83 u84 u85 u86 u87 u88 u89 u90
    u91 u92 u93 u94 u95 u96 u97 u98 u99 u100 u101 u102 u103 u104
    u105 u106 u107 u108 u109 u110 u111 u112 u113 u114 u115 u116 u117 u118
    u119 u120 u121 u122 u123 BR hk hlt
  have K8f := Lib.hid (Mis.hb BR.out K89.out)
  have X12f := Lib.hid (Mis.hb BR.out X129.out)
  have LCf := LC9.out.below BR.out
  have BF := Lib.hid (Buf.then_ B9.out BR.out)
  have LBf := Lib.hid (Buf.then_ LB9.out BR.out)
  by_cases h0 : er2 = 0
  · have MO := Lib.hid (MOK.out h0 wr BF.out _ LCf)
    have e0 : (er2 != 0) = false := by simp [h0]
    clear LCf MOK h0
    go_wp2_with (first | ((with_reducible refine Mid.ldrg 36 (.tmp 8) p8 36 #[.int .i64 A1, .int .i64 A2, .int .i64 A3, .int .i64 D1, .int .i64 D2, .int .i64 D3, .int .i64 s, .slice (some ⟨b1, 0, none⟩) n c1, .slice (some ⟨b2, 0, none⟩) n c2, .slice (some ⟨gp, 0, none⟩) nl cpp, .int .i64 cp] K8f.out ?_ ?_ ?_ ?_ ?_ ?_); (· rfl); (· first | rfl | simp [Region.wanted, yielded]); (· first | rfl | simp [Act.eval]); (· exact ⟨_, rfl, rfl⟩); (· kernel_rfl)) | ((with_reducible refine Mid.ldrg 28 (.tmp 12) p12 28 #[.int .i64 z1, .int .i64 z2, .int .i64 z3, .int .i64 z4, .int .i64 z5, .int .i64 z6, .int .i64 z7, .int .i64 z8, .int .i64 z9, .int .i64 z10, .int .i64 z11, .int .i64 z12] X12f.out ?_ ?_ ?_ ?_ ?_ ?_); (· rfl); (· first | rfl | simp [Region.wanted, yielded]); (· first | rfl | simp [Act.eval]); (· exact ⟨_, rfl, rfl⟩); (· kernel_rfl)) | (go_at_call 11; refine MO.out.mono ?_; rintro e w13 ⟨rfl, b13⟩; have BB := Lib.hid b13; clear b13) | (go_at_call 4; refine (AW.out _).mono ?_; rintro e w14 ⟨rfl, b14⟩))
    go_ret
    exact ⟨rfl, Buf.then_ LBf.out (Buf.then_ BB.out b14)⟩
  · have e0 : (er2 != 0) = true := by simp [h0]
    clear LCf MOK h0
    go_wp2_with (go_at_call 4; refine (AW.out _).mono ?_; rintro e w14 ⟨rfl, b14⟩)
    go_ret
    exact ⟨rfl, Buf.then_ LBf.out b14⟩
theorem proofSound_walk (a0 : Option Addr) (len0 cap0 : Nat) (z0 : List Int) (aL : Option Addr) (nL cL : Nat) (zL : List Int) (r1 r2 r3 r4 r5 r6 r7 r8 r9 r10 r11 r12 : Int) (w : World) (w0 : Buf.IsRow .i64 w a0 len0 cap0 z0) (w1 : Buf.IsRow .i64 w aL nL cL zL) :
    Calls Try.prog 3 #[.slice a0 len0 cap0, .slice aL nL cL, .agg #[.int .i64 r1, .int .i64 r2, .int .i64 r3, .int .i64 r4, .int .i64 r5, .int .i64 r6, .int .i64 r7, .int .i64 r8, .int .i64 r9, .int .i64 r10, .int .i64 r11, .int .i64 r12]] w fun e w' => e = .returned (.bool true) ∧ Below w.heap.size w w' :=
  (ck_root.2 ⟨(ck_pw1.2 ⟨(ck_pw2.2 ⟨(ck_pw3.2.2 ⟨(ck_pw4.2 ⟨ck_pw5⟩)⟩ ⟨ck_pw6⟩)⟩)⟩)⟩) a0 len0 cap0 z0 aL nL cL zL r1 r2 r3 r4 r5 r6 r7 r8 r9 r10 r11 r12 w w0 w1
end Laws
end Go.Proofs.Ytldgihlhioeipaa
