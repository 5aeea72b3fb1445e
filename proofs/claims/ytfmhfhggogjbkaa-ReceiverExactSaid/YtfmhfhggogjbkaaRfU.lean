/- The reference's Union and Valid; its receiver's numbers, Valid, limited, New. -/
import Derived.Test.YtfmhfhggogjbkaaRfNP
import Derived.Test.YtfmhfhggogjbkaaRfEMG
import Derived.Test.YtfmhfhggogjbkaaSpnEI
import Derived.Deep.AppendSrc
import Derived.Laws.AppendOwn
set_option linter.unusedVariables false
set_option linter.unusedSimpArgs false
namespace Go.Proofs.Ytfmhfhggogjbkaa
open Go.RowKit Dice Wi
namespace Spn
open Sp (cells2 cells2_snoc cells2_get Spans own_kept own_below own_mono own_shape)
theorem news_of_its {w : World} {g : Nat} {L : LP} (h : ∀ (k : Nat) (p : Int × Int), L[k]? = some p → w.cell? ⟨g, k * 2, none⟩ = some (.int .i64 p.1) ∧ w.cell? ⟨g, k * 2 + 1, none⟩ = some (.int .i64 p.2)) : ∀ j u, (cells2 L)[j]? = some u → w.cell? ((⟨g, 0, none⟩ : Addr).add j) = some u := by
  intro j u hu
  have hj := (List.getElem?_eq_some_iff.1 hu).1
  rw [cells2_length] at hj
  have ha : (⟨g, 0, none⟩ : Addr).add j = ⟨g, j, none⟩ := by unfold Addr.add; split <;> simp_all
  rw [ha]
  obtain ⟨p, hp⟩ : ∃ p, L[j / 2]? = some p := ⟨_, List.getElem?_eq_getElem (by omega)⟩
  obtain ⟨a1, a2⟩ := cells2_get L (j / 2) p hp
  obtain ⟨b1, b2⟩ := h (j / 2) p hp
  rcases Nat.mod_two_eq_zero_or_one j with e | e
  · have e' : j / 2 * 2 = j := by omega
    rw [e'] at a1 b1
    rw [b1, ← a1, hu]
  · have e' : j / 2 * 2 + 1 = j := by omega
    rw [e'] at a2 b2
    rw [b2, ← a2, hu]
/-- A list of spans is appended to an own one. -/
theorem run_spans {w : World} {B : Nat} {v u : Value} {L K : LP} (h : Spans w B v L) (hu : Its w u K) (hB : B ≤ w.heap.size) (h9 : L.length + K.length ≤ 1000000) (ty : TypeId) :
    ∃ v' w', (Builtin.append_ #[23, 23] ty #[v, u]).run Try.prog w = .ok v' w' ∧ Spans w' B v' (L ++ K) ∧ w.grownBy w' v.ownBlock := by
  obtain ⟨j0, hj0, hz0', hz1', hz2'⟩ := info_get infoS
  unfold Spans
  rw [cells2_append, List.length_append]
  rcases hu with ⟨rfl, rfl⟩ | ⟨g, c, rfl, hc, hg, hcell⟩
  · have hs : Src Try.prog j0.size 23 (.slice none 0 0) 0 [] w := Src.ofNil w Try.underlying23 0
    have e : cells2 L ++ cells2 [] = cells2 L := by simp [cells2]
    rw [e, List.length_nil, Nat.add_zero]
    rcases h.2 with ⟨rfl, h0⟩ | ⟨g, c, cur, rfl, hb, hg, h1, h2, h3, h4⟩
    · exact ⟨_, w, run_append_nothing w _ _ ty 49 j0 Try.underlying23 hj0 none 0 0 (Nat.le_refl _) _ hs, h, ⟨rfl, rfl, rfl, Nat.le_refl _, fun _ _ _ => rfl⟩⟩
    · exact ⟨_, w, run_append_nothing w _ _ ty 49 j0 Try.underlying23 hj0 _ _ c h1 _ hs, h, ⟨rfl, rfl, rfl, Nat.le_refl _, fun _ _ _ => rfl⟩⟩
  · obtain ⟨v', w', hr, r2, r3, _⟩ := run_append_own (P := Try.prog) w B 23 ty 49 j0 _ 2 16 Try.underlying23 hj0 hz0' hz1' hz2' rfl (by decide) v L.length (cells2 L) h ⟨g, 0, none⟩ K.length c (cells2 K) (cells2_length K) (news_of_its hcell) (cells2_one K) (by unfold maxLen; omega) (by omega) hB
    exact ⟨v', w', hr, r2, r3⟩
theorem wp_spans {o : Oper} {a : Act} {K' : Act → World → Prop} {Q : Exit → Act → World → Prop} (s x : Operand)
    (ho : o.op = .call { callee := .builtin .append, args := #[s, x], argTypes := #[23, 23] })
    {w : World} {B : Nat} {v u : Value} {L K : LP} (hv : a.eval s = v) (hx : a.eval x = u) (h : Spans w B v L) (hu : Its w u K) (hB : B ≤ w.heap.size) (h9 : L.length + K.length ≤ 1000000)
    (hK : ∀ v' w', Spans w' B v' (L ++ K) → w.grownBy w' v.ownBlock → K' (a.put o.dst v') w') : o.wp Try.prog a w K' Q := by
  obtain ⟨v', w', hr, r1, r2⟩ := run_spans h hu hB h9 o.type
  unfold Oper.wp execOp
  simp only [ho, resolve, invoke, builtin, Sem.run_bind, Sem.run_pure, Result.andThen_ok, List.map_toArray, List.map_cons, List.map_nil, hv, hx, hr]
  exact hK v' w' r1 r2
theorem wpl_spans {ops : Array Oper} {rest : List Oper} {o : Oper} {a : Act} {Q : Exit → Act → World → Prop} (s x : Operand) {w : World} {B : Nat} {v u : Value} {L K : LP}
    (h : Spans w B v L) (hu : Its w u K) (hB : B ≤ w.heap.size) (h9 : L.length + K.length ≤ 1000000)
    (hgd : o.guard = none) (ho : o.op = .call { callee := .builtin .append, args := #[s, x], argTypes := #[23, 23] }) (hv : a.eval s = v) (hx : a.eval x = u)
    (hK : ∀ v' w', Spans w' B v' (L ++ K) → w.grownBy w' v.ownBlock → wpList Try.prog ops Q rest (a.put o.dst v') w') : wpList Try.prog ops Q (o :: rest) a w :=
  wpList_plain hgd fun _ hKK => wp_spans s x ho hv hx h hu hB h9 fun v' w' h1 h2 => hKK _ _ (hK v' w' h1 h2)
set_option maxHeartbeats 4000000 in
set_option maxRecDepth 100000 in
theorem refunion_any {w : World} {va vb : Value} {A B : LP} (ha : Its w va A) (hb : Its w vb B) (h9a : A.length ≤ 100) (h9b : B.length ≤ 100) :
    Calls Try.prog 17 #[va, vb] w fun e w' => (∃ r N, e = .returned r ∧ Spans w' w.heap.size r N ∧ Is N (fun x => hasB A x || hasB B x) ∧ N.length ≤ A.length + B.length) ∧ Below w.heap.size w w' := by
  have HA := Lib.hid ha
  have HB := Lib.hid hb
  have Z := Lib.hid (show Spans w w.heap.size (.slice none 0 0) [] from World.ownsRow_nil _ _ _ _)
  clear ha hb
  go_enter Try.func17, Try.ntmps17
  go_wp2_with (first
    | (at_builtin; refine wpl_spans (.const (.slice none 0 0)) (.tmp 5) Z.out HA.out (Nat.le_refl _) (by simp; omega) rfl rfl rfl rfl ?_; intro v1 w1 O1 G1; rw [List.nil_append] at O1; have B1 := Lib.hid ((Below.refl w.heap.size w).grown G1 (Nat.le_refl _) (fun k hk => by cases hk)); have P1 := Lib.hid O1; clear O1 G1)
    | (at_builtin; refine wpl_spans (.tmp 6) (.tmp 7) P1.out (HB.out.keep B1.out) B1.out.size (by omega) rfl rfl rfl rfl ?_; intro v2 w2 O2 G2; have B2 := Lib.hid (B1.out.grown G2 B1.out.size (fun k hk => (P1.out.lt k hk).1)); have NN := Lib.hid (refnormal_any (its_of_own O2) (by rw [List.length_append]; omega)))
    | (go_at_call 23; with_reducible refine NN.out.mono ?_; rintro e w3 ⟨⟨r, N, rfl, O3, I3, l3⟩, hb3⟩))
  go_ret
  exact ⟨⟨_, N, rfl, own_mono O3 B2.out.size, I3.congr fun x => hasB_append _ _ _, by rw [List.length_append] at l3; exact l3⟩, Buf.then_ B2.out hb3⟩
theorem refunion_sv {w : World} {va vb : Value} {f g : Int → Bool} {k j : Nat} (ha : Rv w va f k) (hb : Rv w vb g j) (hk : k ≤ 100) (hj : j ≤ 100) : Calls Try.prog 17 #[va, vb] w (Made w (fun x => f x || g x) (k + j)) := by
  have hfa := ha
  have hfb := hb
  obtain ⟨A, h1, h2, h3, h4⟩ := ha
  obtain ⟨B, b1, b2, b3, b4⟩ := hb
  refine (refunion_any h1 b1 (by omega) (by omega)).mono fun e w' h => made (B := w.heap.size) ?_ fun x hx => ?_
  · obtain ⟨⟨r, N, a1, a2, a3, a4⟩, a5⟩ := h
    exact ⟨⟨r, N, a1, a2, a3.congr fun x => by rw [h2, b2], by omega⟩, a5⟩
  · rcases Bool.or_eq_true_iff.1 hx with hx | hx
    · exact hfa.bd hx
    · exact hfb.bd hx
theorem refminus_sv {w : World} {va vb : Value} {f g : Int → Bool} (ha : Sv w va f 32) (hb : Sv w vb g 32) : Calls Try.prog 21 #[va, vb] w (Made w (fun x => f x && !g x) 32) := by
  have hfa := ha.rv
  obtain ⟨A, h1, h2, h3, h4⟩ := ha
  obtain ⟨B, b1, b2, b3, b4⟩ := hb
  refine (refminus_canon h1 b1 h2.canon b2.canon h4 b4 (by omega) (by omega)).mono fun e w' h => made (B := w.heap.size) ?_ fun x hx => hfa.bd (Bool.and_eq_true_iff.1 hx).1
  obtain ⟨⟨r, N, a1, a2, a3, a4⟩, a5⟩ := h
  exact ⟨⟨r, N, a1, a2, a3.congr fun x => by rw [h2.has, b2.has], a4⟩, a5⟩
theorem refmeet_sv {w : World} {va vb : Value} {f g : Int → Bool} (ha : Sv w va f 32) (hb : Sv w vb g 32) : Calls Try.prog 19 #[va, vb] w (Made w (fun x => f x && g x) 32) := by
  have hfa := ha.rv
  obtain ⟨A, h1, h2, h3, h4⟩ := ha
  obtain ⟨B, b1, b2, b3, b4⟩ := hb
  refine (refmeet_canon h1 b1 h2.canon b2.canon h4 b4 (by omega) (by omega)).mono fun e w' h => made (B := w.heap.size) ?_ fun x hx => hfa.bd (Bool.and_eq_true_iff.1 hx).1
  obtain ⟨⟨r, N, a1, a2, a3, a4⟩, a5⟩ := h
  exact ⟨⟨r, N, a1, a2, a3.congr fun x => by rw [h2.has, b2.has], a4⟩, a5⟩
set_option maxHeartbeats 4000000 in
set_option maxRecDepth 100000 in
theorem refvalid08_yes {w : World} {v : Value} {L : LP} (h : Its w v L) (hC : Canon L) (h9 : L.length ≤ 200) :
    Calls Try.prog 25 #[v] w fun e w' => e = .returned (.bool true) ∧ Below w.heap.size w w' := by
  obtain ⟨ad, c, rfl, hc, hf⟩ := its_form h
  obtain ⟨n, hn⟩ : ∃ n, n = L.length := ⟨_, rfl⟩
  rw [← hn] at hc h9 ⊢
  replace hn := Lib.hid hn
  have F := Lib.hid hf
  have CC := Lib.hid hC
  have W0 := Lib.hid (Below.refl w.heap.size w)
  clear h hf hC
  go_enter Try.func25, Try.ntmps25
  go_wp2_with fail
  go_loopw [3] (fun i wr => ∃ kx : Nat, kx ≤ n ∧ i = .int .i64 kx ∧ Hid (Below w.heap.size w wr)) (fun i _ => n - (intOf i).toNat)
  case atStart => exact ⟨0, Nat.zero_le _, rfl, W0⟩
  case round =>
    clear W0
    obtain ⟨kx, hk, rfl, HB⟩ := hrel
    by_cases hlt : kx < n
    · obtain ⟨⟨f, t⟩, hp⟩ : ∃ p, L[kx]? = some p := ⟨L[kx]'(by rw [← hn.out]; exact hlt), List.getElem?_eq_getElem _⟩
      have ft := CC.out.at hp
      simp only at ft
      obtain ⟨g, rfl, hg, q0, q1⟩ := F.out kx _ hp
      have k0 := (HB.out.cell (p := ⟨g, _, none⟩) hg).trans q0
      have k1 := (HB.out.cell (p := ⟨g, _, none⟩) hg).trans q1
      dsimp only at k0 k1
      have b1 : (kx : Int) < n := by omega
      have d1 : decide (t ≤ f) = false := decide_eq_false (by omega)
      rcases Nat.eq_zero_or_pos kx with hk0 | hk0
      · have d0 : decide ((0 : Int) < (kx : Int)) = false := decide_eq_false (by omega)
        have d0n : decide (0 < kx) = false := decide_eq_false (by omega)
        replace hk0 := Lib.hid hk0
        clear q0 q1 hp
        go_wp2_with fail
        go_quiet (fail)
        go_wp2_with fail
        go_roundw
        case rel => exact ⟨kx + 1, by omega, by go_num, Lib.hid (by repeat (first | exact HB.out | refine Buf.below_drewN ?_ _))⟩
        case measure => simp [intOf]; omega
      · obtain ⟨k1', hk1⟩ : ∃ k1', k1' + 1 = kx := ⟨kx - 1, by omega⟩
        obtain ⟨⟨x, y⟩, hx⟩ : ∃ p, L[k1']? = some p := ⟨L[k1']'(by rw [← hn.out]; omega), List.getElem?_eq_getElem _⟩
        have yf := CC.out.get (show k1' < kx by omega) hx hp
        dsimp only at yf
        obtain ⟨g', eg, _, _, q3⟩ := F.out k1' _ hx
        cases eg
        have k3 := (HB.out.cell (p := ⟨g, _, none⟩) hg).trans q3
        dsimp only at k3
        have e1 : (kx : Int) - 1 = (k1' : Int) := by omega
        have bk : (k1' : Int) < (n : Int) := by omega
        have d0 : decide ((0 : Int) < (kx : Int)) = true := decide_eq_true (by omega)
        have d0n : decide (0 < kx) = true := decide_eq_true (by omega)
        have d2 : decide (f ≤ y) = false := decide_eq_false (by omega)
        replace hk1 := Lib.hid hk1
        clear q0 q1 q3 hp hx hk0
        go_wp2_with fail
        go_quiet (fail)
        go_wp2_with fail
        go_roundw
        case rel => exact ⟨kx + 1, by omega, by go_num, Lib.hid (by repeat (first | exact HB.out | refine Buf.below_drewN ?_ _))⟩
        case measure => simp [intOf]; omega
    · obtain rfl : kx = n := by omega
      go_wp2_with fail
      go_ret
      exact ⟨rfl, HB.out⟩
end Spn
namespace Rcv
open Spn
set_option maxHeartbeats 4000000 in
set_option maxRecDepth 100000 in
theorem refnumbers_yes {w : World} {v : Value} {f0 : Int → Bool} (hS : Sv w v f0 32) :
    Calls Try.prog 70 #[v] w fun e w' => e = .returned (.bool true) ∧ Below w.heap.size w w' := by
  obtain ⟨L, h, hL, h9, hI⟩ := hS
  have hC := hL.canon
  have HV := Lib.hid fun (w' : World) (h' : Below w.heap.size w w') => refvalid08_yes (h.keep h') hC (by omega)
  have II := Lib.hid hI
  clear hI hL
  obtain ⟨ad, c, rfl, hc, hf⟩ := its_form h
  obtain ⟨n, hn⟩ : ∃ n, n = L.length := ⟨_, rfl⟩
  rw [← hn] at hc h9 ⊢
  replace hn := Lib.hid hn
  have F := Lib.hid hf
  have CC := Lib.hid hC
  have W0 := Lib.hid (Below.refl w.heap.size w)
  clear h hf hC
  rw [← hn.out] at HV
  go_enter Try.func70, Try.ntmps70
  go_wp2_with fail
  go_loopw [3] (fun i wr => ∃ kx : Nat, kx ≤ n ∧ i = .int .i64 kx ∧ Hid (Below w.heap.size w wr)) (fun i _ => n - (intOf i).toNat)
  case atStart => exact ⟨0, Nat.zero_le _, rfl, W0⟩
  case round =>
    clear W0
    obtain ⟨kx, hk, rfl, HB⟩ := hrel
    by_cases hlt : kx < n
    · obtain ⟨⟨f, t⟩, hp⟩ : ∃ p, L[kx]? = some p := ⟨L[kx]'(by rw [← hn.out]; exact hlt), List.getElem?_eq_getElem _⟩
      obtain ⟨g, rfl, hg, q0, q1⟩ := F.out kx _ hp
      have k0 := (HB.out.cell (p := ⟨g, _, none⟩) hg).trans q0
      have k1 := (HB.out.cell (p := ⟨g, _, none⟩) hg).trans q1
      have hin := II.out _ (List.mem_of_getElem? hp)
      dsimp only at k0 k1 hin
      obtain ⟨i1, i2⟩ := hin
      have b1 : (kx : Int) < n := by omega
      have d1 : decide (f < 0) = false := decide_eq_false (by omega)
      have d2 : decide (1073741825 < t) = false := decide_eq_false (by omega)
      clear q0 q1 hp
      go_wp2_with fail
      go_roundw
      case rel => exact ⟨kx + 1, by omega, by go_num, HB⟩
      case measure => simp [intOf]; omega
    · obtain rfl : kx = n := by omega
      go_wp2_with (go_at_call 25; with_reducible refine (HV.out _ HB.out).mono ?_; rintro e w1 ⟨rfl, hb⟩)
      go_ret
      exact ⟨rfl, Buf.then_ HB.out hb⟩
set_option maxHeartbeats 8000000 in
set_option maxRecDepth 100000 in
theorem refvalid11_yes {w : World} {vg vl : Value} {f g : Int → Bool} (h : Rc w vg vl f g) :
    Calls Try.prog 49 #[.agg #[vg, vl]] w fun e w' => e = .returned (.bool true) ∧ Below w.heap.size w w' := by
  obtain ⟨ga, gn, gc, rfl, _⟩ := Sv.form h.got
  obtain ⟨la, ln, lc, rfl, _⟩ := Sv.form h.lost
  have B0 := Lib.hid (new_block (w := w) (.cells #[.slice ga gn gc, .slice la ln lc] 46))
  have P0 := Lib.hid fun wx (hb : Below (w.alloc (.cells #[.slice ga gn gc, .slice la ln lc] 46)).heap.size (w.alloc (.cells #[.slice ga gn gc, .slice la ln lc] 46)) wx) => c2 (hop hb (heap_alloc_new w (.cells #[.slice ga gn gc, .slice la ln lc] 46)))
  have V1 := Lib.hid fun wx (hb : Below w.heap.size w wx) => refnumbers_yes (h.keep hb).got
  have V2 := Lib.hid fun wx (hb : Below w.heap.size w wx) => refnumbers_yes (h.keep hb).lost
  have M := Lib.hid fun wx (hb : Below w.heap.size w wx) => refmeet_sv (h.keep hb).got (h.keep hb).lost
  have AP := Lib.hid h.apart
  clear h
  go_enter Try.func49, Try.ntmps49
  obtain ⟨wb, hwb⟩ : ∃ wb, wb = w.alloc (.cells #[.slice ga gn gc, .slice la ln lc] 46) := ⟨_, rfl⟩
  rw [← hwb] at B0 P0
  obtain ⟨k0, k1⟩ := P0.out wb (Below.refl _ _)
  go_wp2_with fail
  rw [← hwb]
  refine (V1.out wb B0.out).mono ?_
  rintro e w1 ⟨rfl, hb⟩
  clear k0 k1
  have BB := Lib.hid (Buf.then_ (Below.refl _ _) hb)
  obtain ⟨k0, k1⟩ := P0.out w1 BB.out
  clear hb
  go_wp2_with fail
  refine (V2.out w1 (Buf.then_ B0.out BB.out)).mono ?_
  rintro e w2 ⟨rfl, hb⟩
  clear k0 k1
  replace BB := Lib.hid (Buf.then_ BB.out hb)
  obtain ⟨k0, k1⟩ := P0.out w2 BB.out
  clear hb
  go_wp2_with fail
  refine (M.out w2 (Buf.then_ B0.out BB.out)).mono ?_
  rintro e w3 ⟨⟨r, rfl, hS⟩, hb⟩
  obtain ⟨ra, rc, rfl⟩ := Spn.Sv.none hS AP.out
  clear hS
  replace BB := Lib.hid (Buf.then_ (Buf.then_ B0.out BB.out) hb)
  clear hb
  go_wp2_with fail
  go_ret
  exact ⟨rfl, BB.out⟩
theorem refnew_any (w : World) :
    Calls Try.prog 55 #[] w fun e w' => e = .returned (.agg #[.slice none 0 0, .slice none 0 0]) ∧ Below w.heap.size w w' := by
  go_enter Try.func55, Try.ntmps55
  go_wp2_with fail
  refine bodyPost_ret (v := .agg #[.slice none 0 0, .slice none 0 0]) (by simp [results, Try.results55, go_sem]) rfl ⟨rfl, ?_⟩
  repeat (refine Below.setCell ?_ (Nat.le_refl _) _)
  exact new_block _
theorem reflimited_any (a a' : Option Addr) (n c n' c' : Nat) (hn : n ≤ 4096) (hn' : n' ≤ 4096) (w : World) :
    Calls Try.prog 66 #[.agg #[.slice a n c, .slice a' n' c']] w fun e w' => e = .returned (.tuple #[.agg #[.slice a n c, .slice a' n' c'], .int .i64 0]) ∧ Below w.heap.size w w' := by
  have h1 : ¬ (4096 < (n : Int)) := by omega
  have h2 : ¬ (4096 < (n' : Int)) := by omega
  go_enter Try.func66, Try.ntmps66
  obtain ⟨wb, hwb⟩ : ∃ wb, wb = (w.alloc (.cells #[.slice a n c, .slice a' n' c'] 46)).alloc (.cells #[.slice none 0 0, .slice none 0 0] 46) := ⟨_, rfl⟩
  have e1 : (w.alloc (.cells #[.slice a n c, .slice a' n' c'] 46)).heap.size = w.heap.size + 1 := by simp
  have P1 : wb.heap[w.heap.size]? = some (.cells #[.slice a n c, .slice a' n' c'] 46 (0, 0)) := by rw [hwb]; exact hop (new_block _) (heap_alloc_new w _)
  have P2 : wb.heap[w.heap.size + 1]? = some (.cells #[.slice none 0 0, .slice none 0 0] 46 (0, 0)) := by rw [hwb, ← e1]; exact heap_alloc_new _ _
  have BW := Lib.hid (show Below w.heap.size w wb by rw [hwb]; exact Buf.then_ (new_block _) (new_block _))
  go_upto_region 1 with fail
  rw [← hwb]
  clear hwb e1
  obtain ⟨k0, k1⟩ := Spn.c2 P1
  obtain ⟨k2, k3⟩ := Spn.c2 P2
  have f0 := frozen_of_row wb (w.heap.size + 1) 0 _ _ P2
  have f1 := frozen_of_row wb (w.heap.size + 1) 1 _ _ P2
  have Q8 := (heap_setCell_same wb (w.heap.size + 1) 0 _ _ (.slice a n c) P2).trans rfl
  have Z := Lib.hid ((heap_setCell_same (wb.setCell ⟨w.heap.size + 1, 0, none⟩ (.slice a n c)) (w.heap.size + 1) 1 _ _ (.slice a' n' c') Q8).trans rfl)
  have BZ := Lib.hid ((BW.out.setCell (p := ⟨w.heap.size + 1, 0, none⟩) (Nat.le_succ _) (.slice a n c)).setCell (p := ⟨w.heap.size + 1, 1, none⟩) (Nat.le_succ _) (.slice a' n' c'))
  clear Q8 P1 P2
  go_wp2_with fail
  obtain ⟨q0, q1⟩ := Spn.c2 Z.out
  refine bodyPost_ret (v := .tuple #[.agg #[.slice a n c, .slice a' n' c'], .int .i64 0]) (by simp [results, Try.results66, go_sem, q0, q1]) rfl ⟨rfl, BZ.out⟩
end Rcv
end Go.Proofs.Ytfmhfhggogjbkaa
