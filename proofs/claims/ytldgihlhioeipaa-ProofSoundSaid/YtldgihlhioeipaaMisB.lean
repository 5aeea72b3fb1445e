/- Cost and Best. -/
import Derived.Test.YtldgihlhioeipaaMisA
import Derived.Deep.AppendLies
set_option linter.unusedVariables false
set_option linter.unusedSimpArgs false
namespace Go.Proofs.Ytldgihlhioeipaa
open Go.RowKit
namespace Mis
theorem cell2 {w : World} {g : Nat} {x y : Value} {t : TypeId} (h : w.heap[g]? = some (.cells #[x, y] t (0, 0))) : w.cell? ⟨g, 0, none⟩ = some x ∧ w.cell? ⟨g, 1, none⟩ = some y :=
  ⟨cell_of_row w g 0 _ _ _ h, cell_of_row w g 1 _ _ _ h⟩
/-- What Cost and Best ask of phases, zones and the cap. -/
structure Cs (cap : Int) (L : List Ph) (Z : List (Int × Int)) : Prop where
  c0 : 1 ≤ cap
  c9 : cap ≤ 2000
  n1 : 1 ≤ L.length
  n9 : L.length ≤ 64
  nz : Z.length = L.length
  w : ∀ (k : Nat) (q : Ph), L[k]? = some q → 0 ≤ q.W ∧ q.W ≤ 100
  z : ∀ (k : Nat) (q : Int × Int), Z[k]? = some q → -1125899906842624 ≤ q.1 ∧ q.1 ≤ 1125899906842624 ∧ -1125899906842624 ≤ q.2 ∧ q.2 ≤ 1125899906842624
theorem Cs.wts {cap : Int} {L : List Ph} {Z : List (Int × Int)} (h : Cs cap L Z) : ∀ k, k < L.length → 0 ≤ wt L k ∧ wt L k ≤ 100 := fun k hk => by
  have e := List.getElem?_eq_getElem hk
  rw [wt_at e]; exact h.w k _ e
theorem Cs.zns {cap : Int} {L : List Ph} {Z : List (Int × Int)} (h : Cs cap L Z) : ∀ k, k < L.length → -1125899906842624 ≤ (zn Z k).1 ∧ (zn Z k).1 ≤ 1125899906842624 ∧ -1125899906842624 ≤ (zn Z k).2 ∧ (zn Z k).2 ≤ 1125899906842624 := fun k hk => by
  have e := List.getElem?_eq_getElem (l := Z) (i := k) (by rw [h.nz]; exact hk)
  rw [zn_at e]; exact h.z k _ e
set_option maxRecDepth 100000 in
set_option maxHeartbeats 8000000 in
theorem cost_any {w : World} {g gz c cz : Nat} {L : List Ph} {Z : List (Int × Int)} (a b c' d e f s : Int) (tl th : Option Addr) (tn tm tc td : Nat) (cap t : Int) (h : Cs cap L Z) (hp : PhR w g L) (hz : ZnR w gz Z) (hc : L.length ≤ c) (hcz : L.length ≤ cz) (hcm : cz ≤ maxLen) (t0 : -1125899906842624 ≤ t) (t1 : t ≤ 1125899906842624) (n : Nat) (hn : n = L.length) :
    Calls Try.prog 57 #[.agg #[.int .i64 a, .int .i64 b, .int .i64 c', .int .i64 d, .int .i64 e, .int .i64 f, .int .i64 s, .slice tl tn tc, .slice th tm td, .slice (some ⟨g, 0, none⟩) n c, .int .i64 cap], .slice (some ⟨gz, 0, none⟩) n cz, .int .i64 t] w fun r w' => r = .returned (.int .i64 (ck cap (wt L) (zn Z) t n)) ∧ Below w.heap.size w w' := by
  have H := Lib.hid h
  have HP := Lib.hid hp
  have HZ := Lib.hid hz
  have n9 : n ≤ 64 := by rw [hn]; exact h.n9
  have n1 : 1 ≤ n := by rw [hn]; exact h.n1
  obtain ⟨c0, c9⟩ : 1 ≤ cap ∧ cap ≤ 2000 := ⟨h.c0, h.c9⟩
  rw [← hn] at hc hcz
  have ncz : (n : Int) ≤ cz := by omega
  unfold maxLen at hcm
  have Hn := Lib.hid hn
  have B0 := Lib.hid (heap_alloc_new w (.cells #[.int .i64 a, .int .i64 b, .int .i64 c', .int .i64 d, .int .i64 e, .int .i64 f, .int .i64 s, .slice tl tn tc, .slice th tm td, .slice (some ⟨g, 0, none⟩) n c, .int .i64 cap] 36))
  have W0 : Hid (Below w.heap.size w (w.alloc (.cells #[.int .i64 a, .int .i64 b, .int .i64 c', .int .i64 d, .int .i64 e, .int .i64 f, .int .i64 s, .slice tl tn tc, .slice th tm td, .slice (some ⟨g, 0, none⟩) n c, .int .i64 cap] 36))) := Lib.hid (new_block _)
  clear h hp hz hn
  go_enter Try.func57, Try.ntmps57
  go_wp2_with fail
  go_loopw [19, 7] (fun i u wr => ∃ k : Nat, k ≤ n ∧ i = .int .i64 k ∧ u = .int .i64 (ck cap (wt L) (zn Z) t k) ∧ Hid (Below w.heap.size w wr) ∧ Hid (wr.heap[w.heap.size]? = some (.cells #[.int .i64 a, .int .i64 b, .int .i64 c', .int .i64 d, .int .i64 e, .int .i64 f, .int .i64 s, .slice tl tn tc, .slice th tm td, .slice (some ⟨g, 0, none⟩) n c, .int .i64 cap] 36 (0, 0)))) (fun i _ _ => n - (intOf i).toNat)
  case atStart => exact ⟨0, Nat.zero_le _, rfl, rfl, W0, B0⟩
  case round =>
    clear W0 B0
    obtain ⟨k, hk, rfl, rfl, W0, B0⟩ := hrel
    by_cases hlt : k < n
    · have hlt' : (k : Int) < n := by omega
      have hlt2 : (k : Int) < cz := by omega
      obtain ⟨q, hq⟩ : ∃ q, L[k]? = some q := ⟨L[k]'(by rw [← Hn.out]; exact hlt), List.getElem?_eq_getElem _⟩
      obtain ⟨⟨z1, z2⟩, hzz⟩ : ∃ q, Z[k]? = some q := ⟨Z[k]'(by rw [H.out.nz, ← Hn.out]; exact hlt), List.getElem?_eq_getElem _⟩
      obtain ⟨y0, y1, y2, y3⟩ := H.out.z k _ hzz
      obtain ⟨u0, u1⟩ := H.out.w k _ hq
      dsimp only at y0 y1 y2 y3
      obtain ⟨c0', c1'⟩ := (HZ.out.below W0.out).2 k _ hzz
      dsimp only at c0' c1'
      have c5 := ((HP.out.below W0.out).2 k _ hq).2.2.2.2.2
      have bd := ck_bd cap (wt L) (zn Z) t (by omega) c9 k (fun i hi => H.out.wts i (by rw [← Hn.out]; omega))
      have hck : Hid (ck cap (wt L) (zn Z) t (k + 1) = ck cap (wt L) (zn Z) t k + q.W * min (res (z1, z2) t) cap) := Lib.hid (by conv => lhs; unfold ck; rw [wt_at hq, zn_at hzz])
      have R := Lib.hid fun w => res_any z1 z2 t (by omega) (by omega) (by omega) (by omega) (by omega) (by omega) w
      have r0 := res0 (z1, z2) t
      have r9 : res (z1, z2) t ≤ 4611686018427387904 := by unfold res; dsimp only; omega
      generalize ck cap (wt L) (zn Z) t k = ck0 at hck bd ⊢
      generalize res (z1, z2) t = rr at hck R r0 r9
      generalize q.W = qw at hck c5 u0 u1
      obtain ⟨mm, hmm⟩ : ∃ mm, mm = min rr cap := ⟨_, rfl⟩
      have mm0 : 0 ≤ mm := by omega
      have mm9 : mm ≤ 2000 := by omega
      have p0 : 0 ≤ qw * mm := Int.mul_nonneg u0 mm0
      have p9 : qw * mm ≤ 100 * 2000 := Int.mul_le_mul u1 mm9 mm0 (by omega)
      have i1 : Hid (IntKind.i64.wrap (qw * mm) = qw * mm) := Lib.hid (IntWalk.i64_in _ (by omega))
      have i2 : Hid (IntKind.i64.wrap (ck0 + qw * mm) = ck0 + qw * mm) := Lib.hid (IntWalk.i64_in _ (by omega))
      rw [← hmm] at hck
      obtain ⟨w3, hw3⟩ : ∃ w3, w3 = wr.alloc (.cells #[.int .i64 z1, .int .i64 z2] 100) := ⟨_, rfl⟩
      have Y3 : Hid (Below wr.heap.size wr w3) := Lib.hid (by rw [hw3]; exact new_block _)
      have N3 := Lib.hid (show w3.heap[wr.heap.size]? = some (.cells #[.int .i64 z1, .int .i64 z2] 100 (0, 0)) by rw [hw3]; exact heap_alloc_new wr _)
      have B3 := Lib.hid (hb Y3.out B0.out)
      have W3 := Lib.hid (Buf.then_ W0.out Y3.out)
      replace hw3 := Lib.hid hw3
      replace hmm := Lib.hid hmm
      replace hzz := Lib.hid hzz
      replace hq := Lib.hid hq
      go_upto_region 5 with fail
      rw [← hw3.out]
      have E3 := Lib.hid fun w' (h' : Below w3.heap.size w3 w') => c11 (hb h' B3.out)
      have E4 := Lib.hid fun w' (h' : Below w3.heap.size w3 w') => cell2 (hb h' N3.out)
      have E5 : Hid (∀ w', Below w3.heap.size w3 w' → w'.cell? ⟨g, k * 6 + 5, none⟩ = some (.int .i64 qw)) := Lib.hid fun w' h' => by
        have h2 := Buf.then_ Y3.out h'
        exact (h2.cell (p := ⟨g, _, none⟩) (World.block_lt_of_cell? wr _ c5)).trans c5
      clear c0' c1' c5 hw3
      refine Buf.region_calm w3 (by kernel_rfl) (by kernel_rfl) (Below.refl _ _) ?_
      repeat (go_big_quiet_step ((intro hC; first
            | (go_at_call 74; exact Buf.calm hC (R.out _))
            | rfl
            | (simp only [(E3.out _ hC).2.2.2.2.2.2.2.2.2.1, (E3.out _ hC).2.2.2.2.2.2.2.2.2.2, Result.andThen_ok]; exact ⟨trivial, rfl⟩)
            | (simp only [(E4.out _ hC).1, (E4.out _ hC).2, Result.andThen_ok]; exact ⟨trivial, rfl⟩)
            | (simp only [E5.out _ hC, Result.andThen_ok]; exact ⟨trivial, rfl⟩))))
      refine wpQuiet_nil ?_
      intro w4 hb4
      have v1 : wrap64 (qw * mm) = qw * mm := IntWalk.wrap64_in _ ⟨by omega, by omega⟩
      have v2 : wrap64 (ck0 + qw * mm) = ck0 + qw * mm := IntWalk.wrap64_in _ ⟨by omega, by omega⟩
      rw [← hmm.out, v1, v2]
      have B4 := Lib.hid (hb hb4 B3.out)
      have W4 := Lib.hid (Buf.then_ W3.out hb4)
      clear v1 v2 hb4 E3 E4 E5 i1 i2
      generalize qw * mm = pp at *
      go_wp2_with fail
      go_roundw
      case rel => exact ⟨k + 1, by omega, by go_num, by rw [hck.out], W4, B4⟩
      case measure => simp [intOf]; omega
    · obtain rfl : k = n := by omega
      go_wp2_with fail
      go_ret
      exact ⟨rfl, W0.out⟩
def cands (Z : List (Int × Int)) : List Int := Z.flatMap fun p => [p.1, p.2]
theorem cands_get (Z : List (Int × Int)) (i : Nat) (h : i < 2 * Z.length) : (cands Z)[i]? = some (cd (zn Z) i) := by
  induction Z generalizing i with
  | nil => simp at h
  | cons q l ih =>
    have e : cands (q :: l) = q.1 :: q.2 :: cands l := by simp [cands]
    rw [e]
    obtain rfl | rfl | ⟨j, rfl⟩ : i = 0 ∨ i = 1 ∨ ∃ j, i = j + 2 := by
      rcases i with _ | _ | j
      · exact .inl rfl
      · exact .inr (.inl rfl)
      · exact .inr (.inr ⟨j, rfl⟩)
    · simp [cd, zn]
    · simp [cd, zn]
    · have := ih j (by simp at h; omega)
      have e2 : cd (zn (q :: l)) (j + 2) = cd (zn l) j := by
        unfold cd
        have e3 : (j + 2) % 2 = j % 2 := by omega
        have e4 : (j + 2) / 2 = j / 2 + 1 := by omega
        rw [e3, e4]
        simp [zn]
      rw [e2, ← this]
      simp
theorem cands_snoc (Z : List (Int × Int)) (k : Nat) (q : Int × Int) (h : Z[k]? = some q) : cands (Z.take (k + 1)) = cands (Z.take k) ++ [q.1, q.2] := by
  obtain ⟨hk, rfl⟩ := List.getElem?_eq_some_iff.1 h
  unfold cands
  rw [List.take_succ_eq_append_getElem hk]
  simp only [List.flatMap_append, List.flatMap_cons, List.flatMap_nil, List.append_nil]
def cellsI (l : List Int) : List Value := l.map (Value.int .i64)
theorem bst_yes (c : Int → Int) (e : Nat → Int) (k : Nat) (h : k = 0 ∨ c (e k) < (bst c e k).2 ∨ (c (e k) = (bst c e k).2 ∧ e k < (bst c e k).1)) : (bst c e (k + 1)).1 = e k ∧ (bst c e (k + 1)).2 = c (e k) := by
  have e1 : bst c e (k + 1) = (e k, c (e k)) := by
    conv => lhs; unfold bst
    rw [if_pos (show better c (bst c e k) k (e k) from h)]
  rw [e1]; exact ⟨rfl, rfl⟩
theorem bst_not (c : Int → Int) (e : Nat → Int) (k : Nat) (h : ¬ (k = 0 ∨ c (e k) < (bst c e k).2 ∨ (c (e k) = (bst c e k).2 ∧ e k < (bst c e k).1))) : (bst c e (k + 1)).1 = (bst c e k).1 ∧ (bst c e (k + 1)).2 = (bst c e k).2 := by
  have e1 : bst c e (k + 1) = bst c e k := by
    conv => lhs; unfold bst
    rw [if_neg (show ¬ better c (bst c e k) k (e k) from h)]
  rw [e1]; exact ⟨rfl, rfl⟩
theorem own_ty {w : World} {B sz b : Nat} {e T : TypeId} {v : Value} {n : Nat} {xs : List Value} {cs : Array Value} {fr : Nat × Nat} (h : w.ownsRow B e sz v n xs) (hb : w.heap[b]? = some (.cells cs T fr)) (hT : T ≠ e) : v.ownBlock ≠ some b := by
  intro hk
  rcases h.2 with ⟨rfl, _⟩ | ⟨g, cap, cur, rfl, _, hg, _⟩
  · cases hk
  · simp only [Value.ownBlock, Option.some.injEq] at hk
    subst hk
    rw [hb] at hg
    cases hg
    exact hT rfl
set_option maxRecDepth 100000 in
set_option maxHeartbeats 8000000 in
theorem best_any {w : World} {g gz c cz : Nat} {L : List Ph} {Z : List (Int × Int)} (a b c' d e f s : Int) (tl th : Option Addr) (tn tm tc td : Nat) (cap : Int) (h : Cs cap L Z) (hp : PhR w g L) (hz : ZnR w gz Z) (hc : L.length ≤ c) (hcz : L.length ≤ cz) (hcm : cz ≤ maxLen) (n : Nat) (hn : n = L.length) :
    Calls Try.prog 35 #[.agg #[.int .i64 a, .int .i64 b, .int .i64 c', .int .i64 d, .int .i64 e, .int .i64 f, .int .i64 s, .slice tl tn tc, .slice th tm td, .slice (some ⟨g, 0, none⟩) n c, .int .i64 cap], .slice (some ⟨gz, 0, none⟩) n cz] w fun r w' => r = .returned (.tuple #[.int .i64 (best cap (wt L) (zn Z) n).1, .int .i64 (best cap (wt L) (zn Z) n).2]) ∧ Below w.heap.size w w' := by
  obtain ⟨i0, hi, hz0, hz1, hz2⟩ : ∃ i, Try.prog.info? 3 = some i ∧ i.zero = some (.int .i64 0) ∧ i.size = 1 ∧ i.bytes = 8 := ⟨_, rfl, by kernel_rfl, by kernel_rfl, by kernel_rfl⟩
  have H := Lib.hid h
  have HP := Lib.hid hp
  have HZ := Lib.hid hz
  have n9 : n ≤ 64 := by rw [hn]; exact h.n9
  have n1 : 1 ≤ n := by rw [hn]; exact h.n1
  have hn2 : (n : Int) + n ≤ 128 := by omega
  rw [← hn] at hc hcz
  have Hn := Lib.hid hn
  have HC := Lib.hid fun t w (h1 : PhR w g L) (h2 : ZnR w gz Z) t0 t1 => cost_any a b c' d e f s tl th tn tm tc td cap t h h1 h2 (by rw [← hn]; exact hc) (by rw [← hn]; exact hcz) hcm t0 t1 n hn
  have B0 := Lib.hid (heap_alloc_new w (.cells #[.int .i64 a, .int .i64 b, .int .i64 c', .int .i64 d, .int .i64 e, .int .i64 f, .int .i64 s, .slice tl tn tc, .slice th tm td, .slice (some ⟨g, 0, none⟩) n c, .int .i64 cap] 36))
  have W0 : Hid (Below w.heap.size w (w.alloc (.cells #[.int .i64 a, .int .i64 b, .int .i64 c', .int .i64 d, .int .i64 e, .int .i64 f, .int .i64 s, .slice tl tn tc, .slice th tm td, .slice (some ⟨g, 0, none⟩) n c, .int .i64 cap] 36))) := Lib.hid (new_block _)
  unfold best
  have mk1 : Hid (i0.bytes * (2 * n) ≤ 281474976710656) := Lib.hid (by rw [hz2]; omega)
  have mk2 : Hid (2 * n ≤ maxLen) := Lib.hid (by unfold maxLen; omega)
  have mk3 : w.heap.size + 1 ≤ (w.alloc (.cells #[.int .i64 a, .int .i64 b, .int .i64 c', .int .i64 d, .int .i64 e, .int .i64 f, .int .i64 s, .slice tl tn tc, .slice th tm td, .slice (some ⟨g, 0, none⟩) n c, .int .i64 cap] 36)).heap.size := by simp
  clear h hp hz hn hcm
  go_enter Try.func35, Try.ntmps35
  go_wp2_with (refine wpList_make_own _ rfl _ _ 22 rfl (w.heap.size + 1) 3 i0 (.int .i64 0) 1 Try.underlying22 hi hz0 hz1 .i64 .i64 _ (2 * n) rfl rfl (by push_cast; omega) mk1.out mk2.out mk3 ?_; intro w1 O1 g1)
  have O1' : Hid (w1.ownsRow (w.heap.size + 1) 3 1 (.slice (some ⟨w.heap.size + 1, 0, none⟩) 0 (2 * n)) 0 []) := Lib.hid (by simpa using O1)
  have B1 := Lib.hid (((g1.block w.heap.size (by simp) (fun h => by cases h))).trans B0.out)
  have W1 := Lib.hid (W0.out.grown g1 (by simp) (fun k hk => by cases hk))
  clear O1 g1 mk1 mk2 mk3 B0 W0
  go_loopw [20, 6] (fun i u wr => ∃ (k : Nat) (ad : Option Addr) (kk cc : Nat), k ≤ n ∧ i = .int .i64 k ∧ u = .slice ad kk cc ∧ Hid (kk = 2 * k) ∧ kk ≤ 128 ∧ Hid (wr.ownsRow (w.heap.size + 1) 3 1 (.slice ad kk cc) kk (cellsI (cands (Z.take k)))) ∧ Hid (Below w.heap.size w wr) ∧ Hid (wr.heap[w.heap.size]? = some (.cells #[.int .i64 a, .int .i64 b, .int .i64 c', .int .i64 d, .int .i64 e, .int .i64 f, .int .i64 s, .slice tl tn tc, .slice th tm td, .slice (some ⟨g, 0, none⟩) n c, .int .i64 cap] 36 (0, 0)))) (fun i _ _ => n - (intOf i).toNat)
  case atStart => exact ⟨0, _, 0, _, Nat.zero_le _, rfl, rfl, Lib.hid rfl, by omega, Lib.hid (by simpa [cellsI, cands] using O1'.out), W1, B1⟩
  case round =>
    clear O1' B1 W1
    obtain ⟨k, ad, kk, cc, hk, rfl, rfl, hkk, hkk9, O, W0, B0⟩ := hrel
    by_cases hlt : k < n
    · have hlt' : (k : Int) < n := by omega
      obtain ⟨⟨z1, z2⟩, hzz⟩ : ∃ q, Z[k]? = some q := ⟨Z[k]'(by rw [H.out.nz, ← Hn.out]; exact hlt), List.getElem?_eq_getElem _⟩
      obtain ⟨x0, x1⟩ := (HZ.out.below W0.out).2 k _ hzz
      dsimp only at x0 x1
      have hsn := Lib.hid (cands_snoc Z k _ hzz)
      have hk1 : kk ≤ 126 := by have := hkk.out; omega
      obtain ⟨w2, hw2⟩ : ∃ w2, w2 = wr.alloc (.cells #[.int .i64 z1, .int .i64 z2] 100) := ⟨_, rfl⟩
      have Y2 : Hid (Below wr.heap.size wr w2) := Lib.hid (by rw [hw2]; exact new_block _)
      have N2 := Lib.hid (show w2.heap[wr.heap.size]? = some (.cells #[.int .i64 z1, .int .i64 z2] 100 (0, 0)) by rw [hw2]; exact heap_alloc_new wr _)
      replace hw2 := Lib.hid hw2
      replace hzz := Lib.hid hzz
      go_upto_region 5 with fail
      rw [← hw2.out]
      clear hw2 x0 x1
      obtain ⟨n0, n1'⟩ := cell2 N2.out
      have Y3 : Hid (Below w2.heap.size w2 (w2.alloc (.cells #[.int .i64 z1, .int .i64 z2] 3))) := Lib.hid (new_block _)
      have NB := Lib.hid (World.news_of_block (heap_alloc_new w2 (.cells #[.int .i64 z1, .int .i64 z2] 3)))
      have OB := Lib.hid (own_below (own_below O.out Y2.out) Y3.out)
      have one : Hid (∀ u ∈ [Value.int .i64 z1, .int .i64 z2], u.oneCell' = true) := Lib.hid (by simp; exact ⟨rfl, rfl⟩)
      have m1 : Hid (kk + 2 ≤ maxLen) := Lib.hid (by unfold maxLen; omega)
      have m2 : Hid ((kk + 2) * 8 ≤ 140737488355328) := Lib.hid (by omega)
      have hsz : w.heap.size + 1 ≤ (w2.alloc (.cells #[.int .i64 z1, .int .i64 z2] 3)).heap.size := by have := (Array.getElem?_eq_some_iff.1 B0.out).1; have := Y2.out.size; simp; omega
      go_wp2_with (at_builtin; (refine wpList_append_own _ rfl (.tmp 24) (.tmp 29) 22 rfl (w.heap.size + 1) 3 i0 (.int .i64 0) 1 8 Try.underlying22 hi hz0 hz1 hz2 rfl (by decide) _ kk _ rfl OB.out ⟨w2.heap.size, 0, none⟩ 2 2 _ rfl rfl NB.out one.out m1.out m2.out hsz ?_; intro v' w4 ho hg _))
      have hg' : (w2.alloc (.cells #[.int .i64 z1, .int .i64 z2] 3)).grownBy w4 (Value.slice ad kk cc).ownBlock := hg
      have Y23 := Buf.then_ Y2.out Y3.out
      have B4 := Lib.hid ((hg'.block w.heap.size (by have := (Array.getElem?_eq_some_iff.1 B0.out).1; have := Y23.size; omega) (fun he => own_ty OB.out (hb Y23 B0.out) (by decide) he.symm)).trans (hb Y23 B0.out))
      have W4 := Lib.hid ((Buf.then_ W0.out Y23).grown hg' (by omega) fun q hq => by have := (OB.out.lt q hq).1; omega)
      obtain ⟨ra, rm, rc, rfl, hrm⟩ := own_letter ho
      have hrm2 : Hid (rm = 2 * (k + 1)) := Lib.hid (by rw [hrm.out, hkk.out]; omega)
      have hrm9 : rm ≤ 128 := by rw [hrm.out]; omega
      have O4 : Hid (w4.ownsRow (w.heap.size + 1) 3 1 (.slice ra rm rc) rm (cellsI (cands (Z.take (k + 1))))) := Lib.hid (by
        have e1 := hrm.out
        subst e1
        rw [hsn.out]
        simpa [cellsI] using ho)
      clear ho hg hg' Y23 Y2 Y3 NB OB one m1 m2 hsz n0 n1' hrm
      go_roundw
      case rel => exact ⟨k + 1, ra, rm, rc, by omega, by go_num, rfl, hrm2, hrm9, O4, W4, B4⟩
      case measure => simp [intOf]; omega
    · obtain rfl : k = n := by omega
      have hfull : Z.take k = Z := List.take_of_length_le (by rw [H.out.nz, ← Hn.out]; omega)
      rw [hfull] at O
      clear hfull
      obtain ⟨gc, hgc, hcell⟩ : ∃ gc, ad = some ⟨gc, 0, none⟩ ∧ ∀ w', Below wr.heap.size wr w' → ∀ i, i < 2 * k → w'.cell? ⟨gc, i, none⟩ = some (.int .i64 (cd (zn Z) i)) := by
        rcases own_shape O.out with ⟨h1, h2⟩ | ⟨gc, c2, h1, h2, h3, h4, h5⟩
        · have := hkk.out; omega
        · injection h1 with e1 e2 e3
          subst e1 e3
          refine ⟨gc, rfl, fun w' h' i hi' => ?_⟩
          rw [h'.cell (p := ⟨gc, i, none⟩) h4, O.out.cellAt i (by have := hkk.out; omega)]
          have := cands_get Z i (by rw [H.out.nz, ← Hn.out]; exact hi')
          simp [cellsI, this]
      subst hgc
      replace hcell := Lib.hid hcell
      have hk2 : ((kk : Nat) : Int) = 2 * (k : Int) := by have := hkk.out; omega
      obtain ⟨wo, hwo⟩ : ∃ wo : World, wo = wr := ⟨_, rfl⟩
      have Ho : Hid (Below wr.heap.size wr wr) := Lib.hid (Below.refl _ _)
      have BD : Hid (∀ i, i < 2 * k → -1125899906842624 ≤ cd (zn Z) i ∧ cd (zn Z) i ≤ 1125899906842624) := Lib.hid fun i hi' => by
        have := H.out.zns (i / 2) (by rw [← Hn.out]; omega)
        unfold cd; split <;> omega
      clear hwo
      go_wp2_with fail
      go_loopw [34, 9, 10] (fun i u v wq => ∃ j : Nat, j ≤ 2 * k ∧ i = .int .i64 j ∧ u = .int .i64 (bst (fun t => ck cap (wt L) (zn Z) t k) (cd (zn Z)) j).1 ∧ v = .int .i64 (bst (fun t => ck cap (wt L) (zn Z) t k) (cd (zn Z)) j).2 ∧ Hid (Below wr.heap.size wr wq)) (fun i _ _ _ => 2 * k - (intOf i).toNat)
      case atStart => exact ⟨0, Nat.zero_le _, rfl, rfl, rfl, Ho⟩
      case round =>
        clear Ho
        obtain ⟨j, hj, rfl, rfl, rfl, Ho⟩ := hrel
        have W9 := Lib.hid (Buf.then_ W0.out Ho.out)
        by_cases hjl : j < 2 * k
        · have hjl' : (j : Int) < 2 * (k : Int) := by omega
          have hjk : (j : Int) < (kk : Int) := by omega
          have hcj := hcell.out _ Ho.out j hjl
          obtain ⟨bd0, bd1⟩ := BD.out j hjl
          obtain ⟨q0, q1⟩ := ck_bd cap (wt L) (zn Z) (cd (zn Z) j) (by have := H.out.c0; omega) H.out.c9 k (fun i hi' => H.out.wts i (by rw [← Hn.out]; omega))
          have CC := Lib.hid (fun w h1 h2 => HC.out (cd (zn Z) j) w h1 h2 bd0 bd1)
          have by_ := Lib.hid (bst_yes (fun t => ck cap (wt L) (zn Z) t k) (cd (zn Z)) j)
          have bn_ := Lib.hid (bst_not (fun t => ck cap (wt L) (zn Z) t k) (cd (zn Z)) j)
          have B9 := Lib.hid (hb Ho.out B0.out)
          obtain ⟨e0, e1, e2, e3, e4, e5, e6, e7, e8, e9, e10⟩ := c11 B9.out
          have PW := Lib.hid (HP.out.below W9.out)
          have ZW := Lib.hid (HZ.out.below W9.out)
          generalize ck cap (wt L) (zn Z) (cd (zn Z) j) k = cv at by_ bn_ q0 q1 CC
          generalize cd (zn Z) j = tv at by_ bn_ hcj bd0 bd1 CC
          generalize (bst (fun t => ck cap (wt L) (zn Z) t k) (cd (zn Z)) j).1 = bt at by_ bn_ ⊢
          generalize (bst (fun t => ck cap (wt L) (zn Z) t k) (cd (zn Z)) j).2 = bc at by_ bn_ ⊢
          by_cases hk0 : j = 0
          · have t0 : ((j : Int) == 0) = true := by simp [hk0]
            have N := Lib.hid (by_.out (.inl hk0))
            clear by_ bn_ hk0
            go_wp2_with fail
            refine (CC.out _ PW.out ZW.out).mono ?_
            rintro e wz ⟨rfl, hbz⟩
            clear e0 e1 e2 e3 e4 e5 e6 e7 e8 e9 e10 hcj
            go_wp2_with fail
            go_roundw
            case rel => exact ⟨j + 1, by omega, by go_num, by rw [N.out.1], by rw [N.out.2], Lib.hid (Buf.then_ Ho.out hbz)⟩
            case measure => simp [intOf]; omega
          · have t0 : ((j : Int) == 0) = false := by rw [beq_eq_false_iff_ne]; omega
            by_cases h1 : cv < bc
            · have N := Lib.hid (by_.out (.inr (.inl h1)))
              clear by_ bn_ hk0
              go_wp2_with fail
              refine (CC.out _ PW.out ZW.out).mono ?_
              rintro e wz ⟨rfl, hbz⟩
              clear e0 e1 e2 e3 e4 e5 e6 e7 e8 e9 e10 hcj
              go_wp2_with fail
              go_roundw
              case rel => exact ⟨j + 1, by omega, by go_num, by rw [N.out.1], by rw [N.out.2], Lib.hid (Buf.then_ Ho.out hbz)⟩
              case measure => simp [intOf]; omega
            · by_cases h2 : cv = bc
              · have t2 : (cv == bc) = true := by simp [h2]
                by_cases h3 : tv < bt
                · have N := Lib.hid (by_.out (.inr (.inr ⟨h2, h3⟩)))
                  clear by_ bn_ hk0
                  replace h2 := Lib.hid h2
                  go_wp2_with fail
                  refine (CC.out _ PW.out ZW.out).mono ?_
                  rintro e wz ⟨rfl, hbz⟩
                  clear e0 e1 e2 e3 e4 e5 e6 e7 e8 e9 e10 hcj
                  go_wp2_with fail
                  go_roundw
                  case rel => exact ⟨j + 1, by omega, by go_num, by rw [N.out.1], by rw [N.out.2], Lib.hid (Buf.then_ Ho.out hbz)⟩
                  case measure => simp [intOf]; omega
                · have N := Lib.hid (bn_.out (by omega))
                  clear by_ bn_ hk0
                  replace h2 := Lib.hid h2
                  go_wp2_with fail
                  refine (CC.out _ PW.out ZW.out).mono ?_
                  rintro e wz ⟨rfl, hbz⟩
                  clear e0 e1 e2 e3 e4 e5 e6 e7 e8 e9 e10 hcj
                  go_wp2_with fail
                  go_roundw
                  case rel => exact ⟨j + 1, by omega, by go_num, by rw [N.out.1], by rw [N.out.2], Lib.hid (Buf.then_ Ho.out hbz)⟩
                  case measure => simp [intOf]; omega
              · have t2 : (cv == bc) = false := by rw [beq_eq_false_iff_ne]; exact h2
                have N := Lib.hid (bn_.out (by omega))
                clear by_ bn_ hk0
                replace h2 := Lib.hid h2
                go_wp2_with fail
                refine (CC.out _ PW.out ZW.out).mono ?_
                rintro e wz ⟨rfl, hbz⟩
                clear e0 e1 e2 e3 e4 e5 e6 e7 e8 e9 e10 hcj
                go_wp2_with fail
                go_roundw
                case rel => exact ⟨j + 1, by omega, by go_num, by rw [N.out.1], by rw [N.out.2], Lib.hid (Buf.then_ Ho.out hbz)⟩
                case measure => simp [intOf]; omega
        · obtain rfl : j = 2 * k := by omega
          have hjk : ¬ (((2 * k : Nat) : Int) < (kk : Int)) := by omega
          go_wp2_with fail
          go_ret2
          exact ⟨rfl, W9.out⟩
end Mis
end Go.Proofs.Ytldgihlhioeipaa
