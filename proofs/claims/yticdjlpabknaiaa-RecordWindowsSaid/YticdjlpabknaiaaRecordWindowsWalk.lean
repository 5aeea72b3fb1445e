/- The walk of RecordWindows. -/
import Derived.Test.YticdjlpabknaiaaRecW
import Derived.Test.YticdjlpabknaiaaRecX
import Derived.Test.YticdjlpabknaiaaRecK
import Derived.Test.YticdjlpabknaiaaWithinN
import Derived.RegionTactic
import Derived.Lib.MinMax

set_option linter.unusedVariables false
set_option linter.unusedSimpArgs false
namespace Go.Proofs.Yticdjlpabknaiaa
open Go.RowKit Wi Dice
namespace Laws
open Rec
set_option maxHeartbeats 8000000 in
set_option maxRecDepth 100000 in
theorem recordWindows_walk (a0 : Option Addr) (len0 cap0 : Nat) (z0 : List Int) (a1 a2 : Int) (w : World) (w0 : Buf.IsRow .i64 w a0 len0 cap0 z0) (wf1 : (Lit.int .u8 a1).wf = true) (wf2 : (Lit.int .u8 a2).wf = true) :
    Calls Try.prog 3 #[.slice a0 len0 cap0, .int .u8 a1, .int .u8 a2] w fun e w' => e = .returned (.bool true) ∧ Below w.heap.size w w' := by
  obtain ⟨v0, v1⟩ := Ma.wf_u8 wf1
  obtain ⟨v2, v3⟩ := Ma.wf_u8 wf2
  clear wf1 wf2
  by_cases hs : ¬ len0 ≤ 500
  · have hd : decide ((len0 : Int) ≤ 500) = false := by simp; omega
    go_enter Try.func3, Try.ntmps3
    go_wp2_with (first | (go_at_call 6; refine (light_any _ _ _ _).mono ?_; rintro e w1 ⟨rfl, hw⟩; replace hw := hw.symm; subst hw; rw [hd]) | (go_at_call 7; refine (Rec.sane_any _).mono ?_; rintro e w2 ⟨rfl, hc⟩))
    go_ret
    exact ⟨rfl, hc⟩
  replace hs : len0 ≤ 500 := by omega
  have hd : decide ((len0 : Int) ≤ 500) = true := by simp; omega
  go_enter Try.func3, Try.ntmps3
  go_wp2_with (first | (go_at_call 6; refine (light_any _ _ _ _).mono ?_; rintro e w1 ⟨rfl, hw⟩; replace hw := hw.symm; subst hw; rw [hd]) | (go_at_call 8; refine (roll_any a0 len0 cap0 z0 _ w0 hs).mono ?_; rintro e w2 ⟨rfl, hdi⟩))
  refine (Rec.source_any hdi).mono ?_
  rintro e w4 ⟨⟨s0, s1, s2, s3, rfl, q0, q1, q2, q3⟩, hl⟩
  have hS := Sc.src4_of q0 q1 q2 q3
  replace L0 := Lib.hid ((Dice.Left.refl hdi).trans hl)
  clear hl q0 q1 q2 q3
  go_wp2_with fail
  refine (Rec.record_any ⟨s0.toArray⟩ ⟨s1.toArray⟩ ⟨s2.toArray⟩ ⟨s3.toArray⟩ 12 (by decide) (by decide) L0.out.di).mono ?_
  rintro e w5 ⟨⟨st, fi, num, den, er, ru, se, ad, kk, cc, xs, rfl, HN, ⟨va, vb, gg, hdv, ha, hb', hnum, hden⟩, hown, hkx, k1, k9, HX⟩, hl⟩
  have hl0 := L0
  replace L0 := Lib.hid (L0.out.trans hl)
  have rv : Rate.RV num den := by rw [← hnum, ← hden]; exact hdv.rv
  have er0 : 0 ≤ er ∧ er ≤ 1000 := by have := HN.er_; simp only [List.mem_cons, List.not_mem_nil, or_false] at this; omega
  have fi0 : 0 ≤ fi ∧ fi ≤ 3 := by have := HN.fi_; simp only [List.mem_cons, List.not_mem_nil, or_false] at this; omega
  have P : RP s0 s1 s2 s3 st fi num den er ru se := ⟨hS, by have := HN.s0; omega, by have := HN.s9; omega, fi0.1, by omega, rv, er0.1, er0.2, HN.r0, by have := HN.r9; omega, HN.q0, by have := HN.q9; omega⟩
  obtain ⟨b, c, hsl, sr, hkc, hc9, hbw⟩ := Rec.sr_own (xs := xs) hown hkx k1
  have gl := hdi.lt
  obtain ⟨rfl, rfl⟩ : ad = some ⟨b, 0, none⟩ ∧ cc = c := by injection hsl with p q r; exact ⟨p, r⟩
  have X : RX w5 b kk cc xs := ⟨sr, hkx, k1, by omega, hkc, hc9, fun x hx => by have := HX x hx; omega⟩
  have f3 := fi0.2
  have f0 := fi0.1
  replace P := Lib.hid P
  replace X := Lib.hid X
  replace hbw : w2.heap.size ≤ b := Nat.le_trans hl0.out.far.size hbw
  clear hl0
  clear hl hsl hown hdv ha hb' hnum hden HN HX hdi sr hkx hkc hc9 rv er0 fi0 hS
  go_upto_region 5 with ((with_reducible refine Mid.str 32 (.tmp 8) (.tmp 42) w5.heap.size 32 #[.string ⟨#[]⟩, .string ⟨#[]⟩, .string ⟨#[]⟩, .string ⟨#[]⟩, .int .i64 0, .int .i64 0, .int .i64 0, .int .i64 0, .int .i64 0, .int .i64 0, .int .i64 0, .slice none 0 0] #[.string ⟨s0.toArray⟩, .string ⟨s1.toArray⟩, .string ⟨s2.toArray⟩, .string ⟨s3.toArray⟩, .int .i64 st, .int .i64 fi, .int .i64 num, .int .i64 den, .int .i64 er, .int .i64 ru, .int .i64 se, .slice (some ⟨b, 0, none⟩) kk cc] (heap_alloc_new w5 _) ?_ ?_ ?_ ?_ ?_ ?_ ?_ ?_); (· rfl); (· rfl); (· first | rfl | simp [Act.eval]); (· first | rfl | simp [Act.eval]); (· kernel_rfl); (· rfl); (· simp [Value.oneCell']))
  obtain ⟨w6, hw6⟩ : ∃ w6, w6 = (w5.alloc (.cells #[.string ⟨#[]⟩, .string ⟨#[]⟩, .string ⟨#[]⟩, .string ⟨#[]⟩, .int .i64 0, .int .i64 0, .int .i64 0, .int .i64 0, .int .i64 0, .int .i64 0, .int .i64 0, .slice none 0 0] 32)).setRow w5.heap.size #[.string ⟨s0.toArray⟩, .string ⟨s1.toArray⟩, .string ⟨s2.toArray⟩, .string ⟨s3.toArray⟩, .int .i64 st, .int .i64 fi, .int .i64 num, .int .i64 den, .int .i64 er, .int .i64 ru, .int .i64 se, .slice (some ⟨b, 0, none⟩) kk cc] := ⟨_, rfl⟩
  have N6 : Below w5.heap.size w5 w6 := by rw [hw6]; exact Mid.below_row (Rec.new_block _) _ _ (Nat.le_refl _)
  have K8 := Lib.hid (show w6.heap[w5.heap.size]? = some (.cells #[.string ⟨s0.toArray⟩, .string ⟨s1.toArray⟩, .string ⟨s2.toArray⟩, .string ⟨s3.toArray⟩, .int .i64 st, .int .i64 fi, .int .i64 num, .int .i64 den, .int .i64 er, .int .i64 ru, .int .i64 se, .slice (some ⟨b, 0, none⟩) kk cc] 32 (0, 0)) by rw [hw6]; exact setRow_heap _ _ _ _ _ _ (heap_alloc_new w5 _))
  have L6 := Lib.hid (L0.out.below N6)
  have X6 := Lib.hid (X.out.keep N6)
  rw [← hw6]
  obtain ⟨p8, hp8⟩ : ∃ p, p = w5.heap.size := ⟨_, rfl⟩
  have gp : w2.heap.size ≤ p8 := by rw [hp8]; exact L0.out.far.size
  rw [← hp8] at K8 ⊢
  clear hw6 N6 L0 X hp8
  obtain ⟨x0, x1, x2, x3, x4, x5, x6, x7, x8, x9, x10, x11⟩ := c12 K8.out
  obtain ⟨T0, hT0⟩ : ∃ T0, T0 = tm st fi num den 0 := ⟨_, rfl⟩
  have tb := tm_bd P.out 0 (by omega) (by omega)
  rw [← hT0] at tb
  have SPN := refSpan_any P.out X6.out
  rw [← hT0] at SPN
  obtain ⟨TN, hTN⟩ : ∃ TN, TN = tm st fi num den (kk : Int) := ⟨_, rfl⟩
  rw [← hTN] at SPN
  replace hTN := Lib.hid hTN
  replace SPN := Lib.hid SPN
  replace hT0 := Lib.hid hT0
  have c1 : IntKind.i64.wrap a1 = a1 := IntWalk.i64_in _ (by omega)
  have c2 : IntKind.i64.wrap a2 = a2 := IntWalk.i64_in _ (by omega)
  go_upto_region 6 with (first
    | ((with_reducible refine Mid.ldr 32 (.tmp 8) p8 32 #[.string ⟨s0.toArray⟩, .string ⟨s1.toArray⟩, .string ⟨s2.toArray⟩, .string ⟨s3.toArray⟩, .int .i64 st, .int .i64 fi, .int .i64 num, .int .i64 den, .int .i64 er, .int .i64 ru, .int .i64 se, .slice (some ⟨b, 0, none⟩) kk cc] K8.out ?_ ?_ ?_ ?_ ?_ ?_); (· rfl); (· rfl); (· first | rfl | simp [Act.eval]); (· exact ⟨_, rfl, rfl⟩); (· kernel_rfl)) | (go_at_call 11; with_reducible refine SPN.out.mono ?_; rintro e w7 ⟨rfl, hc⟩; (have K9 := Lib.hid (Rec.hb hc K8.out)); (have X7 := Lib.hid (X6.out.keep hc)); (have L7 := Lib.hid (L6.out.below hc)); clear hc))
  obtain ⟨w8, hw8⟩ : ∃ w8, w8 = w7.alloc (.cells #[.int .i64 T0, .int .i64 TN] 36) := ⟨_, rfl⟩
  have N8 : Below w7.heap.size w7 w8 := by rw [hw8]; exact Rec.new_block _
  have K10 := Lib.hid (show w8.heap[w7.heap.size]? = some (.cells #[.int .i64 T0, .int .i64 TN] 36 (0, 0)) by rw [hw8]; exact heap_alloc_new w7 _)
  have c10 := cell_of_row w8 w7.heap.size 0 _ _ _ K10.out
  replace K9 := Lib.hid (Rec.hb N8 K9.out)
  have X8 := Lib.hid (X7.out.keep N8)
  have B8 := Lib.hid (Buf.then_ L7.out.di.bel N8)
  rw [← hw8]
  clear hw8 N8 X7 L7 X6 L6 K8 SPN x0 x1 x2 x3 x4 x5 x6 x7 x8 x9 x10 x11 K10
  obtain ⟨x0, x1, x2, x3, x4, x5, x6, x7, x8, x9, x10, x11⟩ := c12 K9.out
  obtain ⟨f1, hf1, g1, g1'⟩ : ∃ f1, a1 % 40 = f1 ∧ 0 ≤ f1 ∧ f1 ≤ 39 := ⟨_, rfl, by omega, by omega⟩
  obtain ⟨f2, hf2, g2, g2'⟩ : ∃ f2, a2 % 40 = f2 ∧ 0 ≤ f2 ∧ f2 ≤ 39 := ⟨_, rfl, by omega, by omega⟩
  obtain ⟨fr, hfr⟩ : ∃ fr, T0 + 111111 * f1 - 500000 = fr := ⟨_, rfl⟩
  obtain ⟨to_, hto⟩ : ∃ to_, fr + 111111 * f2 = to_ := ⟨_, rfl⟩
  go_upto_region 8 with fail
  try rw [hf1]
  try rw [hfr]
  try rw [hf2]
  try rw [hto]
  have ft : fr ≤ to_ := by omega
  have tM : to_ ≤ 4772035100000000 := by omega
  clear hf1 hf2 hfr hto c1 c2 c10 v0 v1 v2 v3 g1 g1' g2 g2'
  obtain ⟨lo, hlo⟩ : ∃ lo, lo = min (ffd (TM st fi num den) fr (kk + 1)) kk := ⟨_, rfl⟩
  obtain ⟨hi, hhi⟩ : ∃ hi, hi = min (ffd (TM st fi num den) to_ (kk + 1)) kk := ⟨_, rfl⟩
  obtain ⟨lo2, hlo2⟩ : ∃ lo2, lo2 = ffd (TM st fi num den) fr (kk + 1) := ⟨_, rfl⟩
  obtain ⟨hi2, hhi2⟩ : ∃ hi2, hi2 = ffd (fun j => TM st fi num den (j + 1)) (to_ + 1) kk := ⟨_, rfl⟩
  obtain ⟨la, hla'⟩ : ∃ la, la = hi - lo := ⟨_, rfl⟩
  obtain ⟨lb, hlb'⟩ : ∃ lb, lb = hi2 - lo2 := ⟨_, rfl⟩
  obtain ⟨oka, hoka'⟩ : ∃ o, o = decide (lo < hi) := ⟨_, rfl⟩
  obtain ⟨okb, hokb'⟩ : ∃ o, o = decide (lo2 < hi2) := ⟨_, rfl⟩
  have CUT := cut_any P.out X8.out fr to_
  have INS := fun (w' : World) (h' : Below w8.heap.size w8 w') => inside_any P.out (X8.out.keep h') fr to_
  rw [← hlo, ← hhi, ← hoka'] at CUT
  rw [← hlo2, ← hhi2, ← hokb'] at INS
  replace CUT := Lib.hid CUT
  replace INS := Lib.hid INS
  have SPEC : Hid (∀ k, k < kk → (lo ≤ k ↔ fr ≤ TM st fi num den k) ∧ (hi ≤ k ↔ to_ ≤ TM st fi num den k) ∧ (lo2 ≤ k ↔ fr ≤ TM st fi num den k) ∧ (hi2 ≤ k ↔ to_ + 1 ≤ TM st fi num den (k + 1))) := Lib.hid fun k hk => by
    have s1 := ffd_spec (tm_asc P.out) fr (kk + 1) k (by omega)
    have s2 := ffd_spec (tm_asc P.out) to_ (kk + 1) k (by omega)
    have s3 := ffd_spec (T := fun j => TM st fi num den (j + 1)) (fun i j h => tm_asc P.out (i + 1) (j + 1) (by omega)) (to_ + 1) kk k hk
    rw [← hlo2] at s1 hlo
    rw [← hhi2] at s3
    exact ⟨by omega, by omega, s1, s3⟩
  have LOH : Hid (lo ≤ hi ∧ hi ≤ kk ∧ hi2 ≤ kk) := Lib.hid (by
    have h1 := ffd_mono (T := TM st fi num den) ft (kk + 1)
    have h2 := ffd_le (fun j => TM st fi num den (j + 1)) (to_ + 1) kk
    rw [← hhi2] at h2
    omega)
  replace hlo := Lib.hid hlo
  replace hhi := Lib.hid hhi
  replace hlo2 := Lib.hid hlo2
  replace hhi2 := Lib.hid hhi2
  have hla := Lib.hid hla'
  have hlb := Lib.hid hlb'
  have hoka := Lib.hid hoka'
  have hokb := Lib.hid hokb'
  have la9 : la ≤ 12 := by have := LOH.out; omega
  have lb9 : lb ≤ 12 := by have := LOH.out; omega
  clear hla' hlb' hoka' hokb'
  go_upto_region 9 with (first | ((with_reducible refine Mid.ldr 32 (.tmp 8) p8 32 #[.string ⟨s0.toArray⟩, .string ⟨s1.toArray⟩, .string ⟨s2.toArray⟩, .string ⟨s3.toArray⟩, .int .i64 st, .int .i64 fi, .int .i64 num, .int .i64 den, .int .i64 er, .int .i64 ru, .int .i64 se, .slice (some ⟨b, 0, none⟩) kk cc] K9.out ?_ ?_ ?_ ?_ ?_ ?_); (· rfl); (· rfl); (· first | rfl | simp [Act.eval]); (· exact ⟨_, rfl, rfl⟩); (· kernel_rfl)) | (go_at_call 12; go_loud (refine CUT.out.mono ?_; rintro e w9 ⟨⟨va, rfl, hcr⟩, hc⟩; (obtain ⟨u0a, u1a, u2a, u3a, i4a, i5a, i6a, i7a, i8a, i9a, i10a, saa, caa, hv, hcaa, hsaa⟩ := hcr); (rw [← hla.out] at hv hcaa hsaa); subst hv; skip)) | ((with_reducible refine Mid.str 32 (.tmp 13) (.tmp 67) w9.heap.size 32 #[.string ⟨#[]⟩, .string ⟨#[]⟩, .string ⟨#[]⟩, .string ⟨#[]⟩, .int .i64 0, .int .i64 0, .int .i64 0, .int .i64 0, .int .i64 0, .int .i64 0, .int .i64 0, .slice none 0 0] #[.string ⟨u0a.toArray⟩, .string ⟨u1a.toArray⟩, .string ⟨u2a.toArray⟩, .string ⟨u3a.toArray⟩, .int .i64 i4a, .int .i64 i5a, .int .i64 i6a, .int .i64 i7a, .int .i64 i8a, .int .i64 i9a, .int .i64 i10a, .slice saa (la) caa] (heap_alloc_new w9 _) ?_ ?_ ?_ ?_ ?_ ?_ ?_ ?_); (· rfl); (· rfl); (· first | rfl | simp [Act.eval]); (· first | rfl | simp [Act.eval]); (· kernel_rfl); (· rfl); (· simp [Value.oneCell'])))
  obtain ⟨w10, hw10⟩ : ∃ w10, w10 = (w9.alloc (.cells #[.string ⟨#[]⟩, .string ⟨#[]⟩, .string ⟨#[]⟩, .string ⟨#[]⟩, .int .i64 0, .int .i64 0, .int .i64 0, .int .i64 0, .int .i64 0, .int .i64 0, .int .i64 0, .slice none 0 0] 32)).setRow w9.heap.size #[.string ⟨u0a.toArray⟩, .string ⟨u1a.toArray⟩, .string ⟨u2a.toArray⟩, .string ⟨u3a.toArray⟩, .int .i64 i4a, .int .i64 i5a, .int .i64 i6a, .int .i64 i7a, .int .i64 i8a, .int .i64 i9a, .int .i64 i10a, .slice saa (la) caa] := ⟨_, rfl⟩
  have N10 : Below w9.heap.size w9 w10 := by rw [hw10]; exact Mid.below_row (Rec.new_block _) _ _ (Nat.le_refl _)
  obtain ⟨p13, hp13⟩ : ∃ p, p = w9.heap.size := ⟨_, rfl⟩
  have A13 := Lib.hid (show w10.heap[p13]? = some (.cells #[.string ⟨u0a.toArray⟩, .string ⟨u1a.toArray⟩, .string ⟨u2a.toArray⟩, .string ⟨u3a.toArray⟩, .int .i64 i4a, .int .i64 i5a, .int .i64 i6a, .int .i64 i7a, .int .i64 i8a, .int .i64 i9a, .int .i64 i10a, .slice saa (la) caa] 32 (0, 0)) by rw [hw10, hp13]; exact setRow_heap _ _ _ _ _ _ (heap_alloc_new w9 _))
  have Y10 := Lib.hid (Buf.then_ hc N10)
  rw [← hw10, ← hp13]
  have HA := Lib.hid (show 0 < la → ∃ g, saa = some ⟨g, 0, none⟩ ∧ g < w10.heap.size ∧ ∀ j, j < la → w10.cell? ⟨g, j, none⟩ = some (.int .i64 (xs.getD (lo + j) 0)) from fun h => by
    obtain ⟨g, e, h1, h2⟩ := hsaa h
    exact ⟨g, e, Nat.lt_of_lt_of_le h1 N10.size, fun j hj => (N10.cell (p := ⟨g, j, none⟩) h1).trans (h2 j hj)⟩)
  replace K9 := Lib.hid (Rec.hb Y10.out K9.out)
  have X10 := Lib.hid (X8.out.keep Y10.out)
  replace B8 := Lib.hid (Buf.then_ B8.out Y10.out)
  have INT := Lib.hid (INS.out _ Y10.out)
  clear hw10 hp13 N10 hc hsaa X8 Y10 CUT INS x0 x1 x2 x3 x4 x5 x6 x7 x8 x9 x10 x11
  go_upto_region 10 with (first | ((with_reducible refine Mid.ldr 32 (.tmp 8) p8 32 #[.string ⟨s0.toArray⟩, .string ⟨s1.toArray⟩, .string ⟨s2.toArray⟩, .string ⟨s3.toArray⟩, .int .i64 st, .int .i64 fi, .int .i64 num, .int .i64 den, .int .i64 er, .int .i64 ru, .int .i64 se, .slice (some ⟨b, 0, none⟩) kk cc] K9.out ?_ ?_ ?_ ?_ ?_ ?_); (· rfl); (· rfl); (· first | rfl | simp [Act.eval]); (· exact ⟨_, rfl, rfl⟩); (· kernel_rfl)) | (go_at_call 13; go_loud (refine INT.out.mono ?_; rintro e w11 ⟨⟨vb, rfl, hcr⟩, hc⟩; (obtain ⟨u0b, u1b, u2b, u3b, i4b, i5b, i6b, i7b, i8b, i9b, i10b, sab, cab, hv, hcab, hsab⟩ := hcr); (rw [← hlb.out] at hv hcab hsab); subst hv; skip)) | ((with_reducible refine Mid.str 32 (.tmp 16) (.tmp 75) w11.heap.size 32 #[.string ⟨#[]⟩, .string ⟨#[]⟩, .string ⟨#[]⟩, .string ⟨#[]⟩, .int .i64 0, .int .i64 0, .int .i64 0, .int .i64 0, .int .i64 0, .int .i64 0, .int .i64 0, .slice none 0 0] #[.string ⟨u0b.toArray⟩, .string ⟨u1b.toArray⟩, .string ⟨u2b.toArray⟩, .string ⟨u3b.toArray⟩, .int .i64 i4b, .int .i64 i5b, .int .i64 i6b, .int .i64 i7b, .int .i64 i8b, .int .i64 i9b, .int .i64 i10b, .slice sab (lb) cab] (heap_alloc_new w11 _) ?_ ?_ ?_ ?_ ?_ ?_ ?_ ?_); (· rfl); (· rfl); (· first | rfl | simp [Act.eval]); (· first | rfl | simp [Act.eval]); (· kernel_rfl); (· rfl); (· simp [Value.oneCell'])))
  obtain ⟨w12, hw12⟩ : ∃ w12, w12 = (w11.alloc (.cells #[.string ⟨#[]⟩, .string ⟨#[]⟩, .string ⟨#[]⟩, .string ⟨#[]⟩, .int .i64 0, .int .i64 0, .int .i64 0, .int .i64 0, .int .i64 0, .int .i64 0, .int .i64 0, .slice none 0 0] 32)).setRow w11.heap.size #[.string ⟨u0b.toArray⟩, .string ⟨u1b.toArray⟩, .string ⟨u2b.toArray⟩, .string ⟨u3b.toArray⟩, .int .i64 i4b, .int .i64 i5b, .int .i64 i6b, .int .i64 i7b, .int .i64 i8b, .int .i64 i9b, .int .i64 i10b, .slice sab (lb) cab] := ⟨_, rfl⟩
  have N12 : Below w11.heap.size w11 w12 := by rw [hw12]; exact Mid.below_row (Rec.new_block _) _ _ (Nat.le_refl _)
  obtain ⟨p16, hp16⟩ : ∃ p, p = w11.heap.size := ⟨_, rfl⟩
  have A16 := Lib.hid (show w12.heap[p16]? = some (.cells #[.string ⟨u0b.toArray⟩, .string ⟨u1b.toArray⟩, .string ⟨u2b.toArray⟩, .string ⟨u3b.toArray⟩, .int .i64 i4b, .int .i64 i5b, .int .i64 i6b, .int .i64 i7b, .int .i64 i8b, .int .i64 i9b, .int .i64 i10b, .slice sab (lb) cab] 32 (0, 0)) by rw [hw12, hp16]; exact setRow_heap _ _ _ _ _ _ (heap_alloc_new w11 _))
  have Y12 := Lib.hid (Buf.then_ hc N12)
  rw [← hw12, ← hp16]
  have HB := Lib.hid (show 0 < lb → ∃ g, sab = some ⟨g, 0, none⟩ ∧ g < w12.heap.size ∧ ∀ j, j < lb → w12.cell? ⟨g, j, none⟩ = some (.int .i64 (xs.getD (lo2 + j) 0)) from fun h => by
    obtain ⟨g, e, h1, h2⟩ := hsab h
    exact ⟨g, e, Nat.lt_of_lt_of_le h1 N12.size, fun j hj => (N12.cell (p := ⟨g, j, none⟩) h1).trans (h2 j hj)⟩)
  replace HA := Lib.hid (show 0 < la → ∃ g, saa = some ⟨g, 0, none⟩ ∧ g < w12.heap.size ∧ ∀ j, j < la → w12.cell? ⟨g, j, none⟩ = some (.int .i64 (xs.getD (lo + j) 0)) from fun h => by
    obtain ⟨g, e, h1, h2⟩ := HA.out h
    exact ⟨g, e, Nat.lt_of_lt_of_le h1 Y12.out.size, fun j hj => (Y12.out.cell (p := ⟨g, j, none⟩) h1).trans (h2 j hj)⟩)
  replace K9 := Lib.hid (Rec.hb Y12.out K9.out)
  replace A13 := Lib.hid (Rec.hb Y12.out A13.out)
  have X12 := Lib.hid (X10.out.keep Y12.out)
  replace B8 := Lib.hid (Buf.then_ B8.out Y12.out)
  clear hw12 hp16 N12 hc hsab X10 Y12 INT
  obtain ⟨x0, x1, x2, x3, x4, x5, x6, x7, x8, x9, x10, x11⟩ := c12 K9.out
  go_upto_region 13 with fail
  have RA := Lib.hid fun (w' : World) (h' : Below w12.heap.size w12 w') (i : Int) (i0 : 0 ≤ i) (i9 : i ≤ kk) => refAt_any P.out (X12.out.keep h') i i0 i9
  go_wp2_with fail
  clear x0 x1 x2 x3 x4 x5 x6 x7 x8 x9 x10 x11
  go_loopw [19, 20, 87] (fun v19 v20 v87 wr => ∃ k cu ci : Nat, k ≤ kk ∧ v19 = .int .i64 cu ∧ v20 = .int .i64 ci ∧ v87 = .int .i64 k ∧ Hid (cu = min k hi - lo) ∧ Hid (ci = min k hi2 - lo2) ∧ Hid (Below w12.heap.size w12 wr)) (fun _ _ v _ => kk - (intOf v).toNat)
  case atStart => exact ⟨0, 0, 0, by omega, rfl, rfl, rfl, Lib.hid (by omega), Lib.hid (by omega), Lib.hid (Below.refl _ _)⟩
  case round =>
    obtain ⟨k, cu, ci, hk, rfl, rfl, rfl, hcu, hci, HB9⟩ := hrel
    by_cases hlt : k < kk
    · have K9r := Lib.hid (Rec.hb HB9.out K9.out)
      have kki : (k : Int) < (kk : Int) := by omega
      obtain ⟨s1, s2, s3, s4⟩ := SPEC.out k hlt
      have st1 := tm_step P.out.rv st fi (k : Int)
      have R1 := RA.out _ HB9.out (k : Int) (by omega) (by omega)
      have R2 := fun (w' : World) (h' : Below w12.heap.size w12 w') => RA.out w' h' ((k : Int) + 1) (by omega) (by omega)
      have e2 : TM st fi num den (k + 1) = tm st fi num den ((k : Int) + 1) := by unfold TM; rw [show ((k + 1 : Nat) : Int) = (k : Int) + 1 by omega]
      have e1 : TM st fi num den k = tm st fi num den (k : Int) := rfl
      rw [e2] at s4
      rw [e1] at s1 s2 s3
      clear e1 e2
      generalize tm st fi num den (k : Int) = xv at *
      generalize tm st fi num den ((k : Int) + 1) = yv at *
      replace R1 := Lib.hid R1
      replace R2 := Lib.hid R2
      have SS := Lib.hid (show (lo ≤ k ↔ fr ≤ xv) ∧ (hi ≤ k ↔ to_ ≤ xv) ∧ (lo2 ≤ k ↔ fr ≤ xv) ∧ (hi2 ≤ k ↔ to_ + 1 ≤ yv) ∧ xv < yv from ⟨s1, s2, s3, s4, st1⟩)
      clear s1 s2 s3 s4 st1
      go_upto_region 18 with (first
        | ((with_reducible refine Mid.ldr 32 (.tmp 8) p8 32 #[.string ⟨s0.toArray⟩, .string ⟨s1.toArray⟩, .string ⟨s2.toArray⟩, .string ⟨s3.toArray⟩, .int .i64 st, .int .i64 fi, .int .i64 num, .int .i64 den, .int .i64 er, .int .i64 ru, .int .i64 se, .slice (some ⟨b, 0, none⟩) kk cc] K9r.out ?_ ?_ ?_ ?_ ?_ ?_); (· rfl); (· rfl); (· first | rfl | simp [Act.eval]); (· exact ⟨_, rfl, rfl⟩); (· kernel_rfl))
        | (go_at_call 14; first
          | (with_reducible refine R1.out.mono ?_; rintro e w13 ⟨rfl, hc⟩; (replace K9r := Lib.hid (Rec.hb hc K9r.out)); have HBc := Lib.hid (Buf.then_ HB9.out hc); clear hc)
          | (with_reducible refine (R2.out _ HBc.out).mono ?_; rintro e w14 ⟨rfl, hc⟩; (replace HBc := Lib.hid (Buf.then_ HBc.out hc)); (replace K9r := Lib.hid (Rec.hb hc K9r.out)); clear hc)))
      obtain ⟨_, _, _, _, _, _, _, _, _, _, _, q8⟩ := c12 K9r.out
      obtain ⟨_, _, _, _, _, _, _, _, _, _, _, q13⟩ := c12 (Rec.hb HBc.out A13.out)
      obtain ⟨_, _, _, _, _, _, _, _, _, _, _, q16⟩ := c12 (Rec.hb HBc.out A16.out)
      have zk := ((X12.out.keep HBc.out).at_ hlt).1
      have cu9 : cu ≤ 12 := by have := hcu.out; have := LOH.out; omega
      have ci9 : ci ≤ 12 := by have := hci.out; have := LOH.out; omega
      have kc : (kk : Int) ≤ (cc : Int) := by have := X12.out.hc; omega
      clear R1 R2 K9r HB9
      have ways : ¬ fr ≤ xv ∨ (fr ≤ xv ∧ ¬ xv < to_) ∨ (fr ≤ xv ∧ xv < to_ ∧ ¬ yv ≤ to_) ∨ (fr ≤ xv ∧ xv < to_ ∧ yv ≤ to_) := by omega
      rcases ways with hw1 | hw2 | hw3 | hw4
      · have h1 : ¬ fr ≤ xv := hw1
        obtain ⟨S1, S2, S3, S4, S5⟩ := SS.out
        have L3 := LOH.out
        have NC : Hid (cu = min (k + 1) hi - lo) := Lib.hid (by have := hcu.out; omega)
        have NI : Hid (ci = min (k + 1) hi2 - lo2) := Lib.hid (by have := hci.out; omega)
        clear S1 S2 S3 S4 S5 L3 SS
        generalize xs.getD k 0 = zz at *
        go_wp2_with fail
        go_roundw
        case rel => exact ⟨k + 1, cu, ci, by omega, by go_num, by go_num, by go_num, NC, NI, Lib.hid (by repeat (first | exact HBc.out | refine Buf.below_drewN ?_ _))⟩
        case measure => simp [intOf]; omega
      · obtain ⟨h1, h2⟩ := hw2
        have h3 : ¬ yv ≤ to_ := by have := SS.out; omega
        obtain ⟨S1, S2, S3, S4, S5⟩ := SS.out
        have L3 := LOH.out
        have NC : Hid (cu = min (k + 1) hi - lo) := Lib.hid (by have := hcu.out; omega)
        have NI : Hid (ci = min (k + 1) hi2 - lo2) := Lib.hid (by have := hci.out; omega)
        clear S1 S2 S3 S4 S5 L3 SS
        generalize xs.getD k 0 = zz at *
        go_wp2_with fail
        go_roundw
        case rel => exact ⟨k + 1, cu, ci, by omega, by go_num, by go_num, by go_num, NC, NI, Lib.hid (by repeat (first | exact HBc.out | refine Buf.below_drewN ?_ _))⟩
        case measure => simp [intOf]; omega
      · obtain ⟨h1, h2, h3⟩ := hw3
        obtain ⟨S1, S2, S3, S4, S5⟩ := SS.out
        have L3 := LOH.out
        have NC : Hid ((cu + 1) = min (k + 1) hi - lo) := Lib.hid (by have := hcu.out; omega)
        have NI : Hid (ci = min (k + 1) hi2 - lo2) := Lib.hid (by have := hci.out; omega)
        obtain rfl : oka = true := hoka.out.trans (decide_eq_true (by omega))
        have hcuA : cu + lo = k := by have := hcu.out; omega
        have llA : cu < la := by have := hla.out; omega
        obtain ⟨gA, eA, hgA, hcA⟩ := HA.out (by omega)
        subst eA
        have zA := (HBc.out.cell (p := ⟨gA, cu, none⟩) hgA).trans (hcA cu llA)
        rw [show lo + cu = k by omega] at zA
        have dA : decide ((la : Int) ≤ (cu : Int)) = false := decide_eq_false (by omega)
        have dAn : decide (la ≤ cu) = false := decide_eq_false (by omega)
        have bA : (cu : Int) < (la : Int) := by omega
        have bA2 : (la : Int) ≤ (caa : Int) := by omega
        clear hcuA hcA llA
        clear S1 S2 S3 S4 S5 L3 SS
        generalize xs.getD k 0 = zz at *
        go_wp2_with fail
        go_quiet (fail)
        go_wp2_with fail
        go_roundw
        case rel => exact ⟨k + 1, (cu + 1), ci, by omega, by go_num, by go_num, by go_num, NC, NI, Lib.hid (by repeat (first | exact HBc.out | refine Buf.below_drewN ?_ _))⟩
        case measure => simp [intOf]; omega
      · obtain ⟨h1, h2, h3⟩ := hw4
        obtain ⟨S1, S2, S3, S4, S5⟩ := SS.out
        have L3 := LOH.out
        have NC : Hid ((cu + 1) = min (k + 1) hi - lo) := Lib.hid (by have := hcu.out; omega)
        have NI : Hid ((ci + 1) = min (k + 1) hi2 - lo2) := Lib.hid (by have := hci.out; omega)
        obtain rfl : oka = true := hoka.out.trans (decide_eq_true (by omega))
        have hcuA : cu + lo = k := by have := hcu.out; omega
        have llA : cu < la := by have := hla.out; omega
        obtain ⟨gA, eA, hgA, hcA⟩ := HA.out (by omega)
        subst eA
        have zA := (HBc.out.cell (p := ⟨gA, cu, none⟩) hgA).trans (hcA cu llA)
        rw [show lo + cu = k by omega] at zA
        have dA : decide ((la : Int) ≤ (cu : Int)) = false := decide_eq_false (by omega)
        have dAn : decide (la ≤ cu) = false := decide_eq_false (by omega)
        have bA : (cu : Int) < (la : Int) := by omega
        have bA2 : (la : Int) ≤ (caa : Int) := by omega
        clear hcuA hcA llA
        obtain rfl : okb = true := hokb.out.trans (decide_eq_true (by omega))
        have hcuB : ci + lo2 = k := by have := hci.out; omega
        have llB : ci < lb := by have := hlb.out; omega
        obtain ⟨gB, eB, hgB, hcB⟩ := HB.out (by omega)
        subst eB
        have zB := (HBc.out.cell (p := ⟨gB, ci, none⟩) hgB).trans (hcB ci llB)
        rw [show lo2 + ci = k by omega] at zB
        have dB : decide ((lb : Int) ≤ (ci : Int)) = false := decide_eq_false (by omega)
        have dBn : decide (lb ≤ ci) = false := decide_eq_false (by omega)
        have bB : (ci : Int) < (lb : Int) := by omega
        have bB2 : (lb : Int) ≤ (cab : Int) := by omega
        clear hcuB hcB llB
        clear S1 S2 S3 S4 S5 L3 SS
        generalize xs.getD k 0 = zz at *
        go_wp2_with fail
        go_quiet (fail)
        go_wp2_with fail
        go_quiet (fail)
        go_wp2_with fail
        go_roundw
        case rel => exact ⟨k + 1, (cu + 1), (ci + 1), by omega, by go_num, by go_num, by go_num, NC, NI, Lib.hid (by repeat (first | exact HBc.out | refine Buf.below_drewN ?_ _))⟩
        case measure => simp [intOf]; omega
    · have hkk : k = kk := by omega
      subst hkk
      obtain ⟨L1, L2, L3⟩ := LOH.out
      obtain rfl : cu = la := by have := hcu.out; have := hla.out; omega
      obtain rfl : ci = lb := by have := hci.out; have := hlb.out; omega
      have z0 : min (ffd (TM st fi num den) 0 (k + 1)) k = 0 := by
        rw [ffd_zero (T := TM st fi num den) (k + 1) (fun j hj => (tm_bd P.out (j : Int) (by omega) (by omega)).1)]
        omega
      have zM : min (ffd (TM st fi num den) 9007199254740992 (k + 1)) k = k := by
        rw [ffd_all (k + 1) (fun j hj => by have := (tm_bd P.out (j : Int) (by omega) (by omega)).2; unfold TM; omega)]
        omega
      have K9r := Lib.hid (Rec.hb HB9.out K9.out)
      have LEF := cut_any P.out (X12.out.keep HB9.out) 0 fr
      have RIG := fun (w' : World) (h' : Below w12.heap.size w12 w') => cut_any P.out (X12.out.keep h') to_ 9007199254740992
      rw [z0, ← hlo.out] at LEF
      rw [zM, ← hhi.out] at RIG
      obtain ⟨l4, hl4'⟩ : ∃ l4, k - hi = l4 := ⟨_, rfl⟩
      have hl4 := Lib.hid hl4'
      obtain ⟨was, hwas'⟩ : ∃ o, o = decide (0 < lo) := ⟨_, rfl⟩
      obtain ⟨has, hhas'⟩ : ∃ o, o = decide (hi < k) := ⟨_, rfl⟩
      rw [← hwas'] at LEF
      rw [← hhas'] at RIG
      replace LEF := Lib.hid LEF
      replace RIG := Lib.hid RIG
      have hwas := Lib.hid hwas'
      have hhas := Lib.hid hhas'
      have lo9 : lo ≤ 12 := by omega
      have l49 : l4 ≤ 12 := by omega
      have SUM := Lib.hid (show lo + l4 + cu = k from by have := hla.out; omega)
      have EA : (oka = true ∧ (0 : Int) < (cu : Int)) ∨ (oka = false ∧ ¬ (0 : Int) < (cu : Int)) := by
        have := hla.out
        by_cases h : lo < hi
        · exact .inl ⟨hoka.out.trans (decide_eq_true h), by omega⟩
        · exact .inr ⟨hoka.out.trans (decide_eq_false h), by omega⟩
      have EB : (okb = true ∧ (0 : Int) < (ci : Int)) ∨ (okb = false ∧ ¬ (0 : Int) < (ci : Int)) := by
        have := hlb.out
        by_cases h : lo2 < hi2
        · exact .inl ⟨hokb.out.trans (decide_eq_true h), by omega⟩
        · exact .inr ⟨hokb.out.trans (decide_eq_false h), by omega⟩
      clear hl4' hwas' hhas' z0 zM L1 L2 L3 hcu hci hlt SPEC
      go_upto_region 28 with (first | ((with_reducible refine Mid.ldr 32 (.tmp 8) p8 32 #[.string ⟨s0.toArray⟩, .string ⟨s1.toArray⟩, .string ⟨s2.toArray⟩, .string ⟨s3.toArray⟩, .int .i64 st, .int .i64 fi, .int .i64 num, .int .i64 den, .int .i64 er, .int .i64 ru, .int .i64 se, .slice (some ⟨b, 0, none⟩) k cc] K9r.out ?_ ?_ ?_ ?_ ?_ ?_); (· rfl); (· rfl); (· first | rfl | simp [Act.eval]); (· exact ⟨_, rfl, rfl⟩); (· kernel_rfl)) | (go_at_call 12; go_loud (refine LEF.out.mono ?_; rintro e w20 ⟨⟨vc, rfl, hcr⟩, hc⟩; (obtain ⟨u0c, u1c, u2c, u3c, i4c, i5c, i6c, i7c, i8c, i9c, i10c, sac, cac, hv, hcac, hsac⟩ := hcr); (rw [Nat.sub_zero] at hv hcac); subst hv; clear hsac)) | ((with_reducible refine Mid.str 32 (.tmp 26) (.tmp 172) w20.heap.size 32 #[.string ⟨#[]⟩, .string ⟨#[]⟩, .string ⟨#[]⟩, .string ⟨#[]⟩, .int .i64 0, .int .i64 0, .int .i64 0, .int .i64 0, .int .i64 0, .int .i64 0, .int .i64 0, .slice none 0 0] #[.string ⟨u0c.toArray⟩, .string ⟨u1c.toArray⟩, .string ⟨u2c.toArray⟩, .string ⟨u3c.toArray⟩, .int .i64 i4c, .int .i64 i5c, .int .i64 i6c, .int .i64 i7c, .int .i64 i8c, .int .i64 i9c, .int .i64 i10c, .slice sac (lo) cac] (heap_alloc_new w20 _) ?_ ?_ ?_ ?_ ?_ ?_ ?_ ?_); (· rfl); (· rfl); (· first | rfl | simp [Act.eval]); (· first | rfl | simp [Act.eval]); (· kernel_rfl); (· rfl); (· simp [Value.oneCell'])))
      obtain ⟨w21, hw21⟩ : ∃ z, z = (w20.alloc (.cells #[.string ⟨#[]⟩, .string ⟨#[]⟩, .string ⟨#[]⟩, .string ⟨#[]⟩, .int .i64 0, .int .i64 0, .int .i64 0, .int .i64 0, .int .i64 0, .int .i64 0, .int .i64 0, .slice none 0 0] 32)).setRow w20.heap.size #[.string ⟨u0c.toArray⟩, .string ⟨u1c.toArray⟩, .string ⟨u2c.toArray⟩, .string ⟨u3c.toArray⟩, .int .i64 i4c, .int .i64 i5c, .int .i64 i6c, .int .i64 i7c, .int .i64 i8c, .int .i64 i9c, .int .i64 i10c, .slice sac (lo) cac] := ⟨_, rfl⟩
      have N21 : Below w20.heap.size w20 w21 := by rw [hw21]; exact Mid.below_row (Rec.new_block _) _ _ (Nat.le_refl _)
      obtain ⟨p26, hp26⟩ : ∃ p, p = w20.heap.size := ⟨_, rfl⟩
      have C26 := Lib.hid (show w21.heap[p26]? = some (.cells #[.string ⟨u0c.toArray⟩, .string ⟨u1c.toArray⟩, .string ⟨u2c.toArray⟩, .string ⟨u3c.toArray⟩, .int .i64 i4c, .int .i64 i5c, .int .i64 i6c, .int .i64 i7c, .int .i64 i8c, .int .i64 i9c, .int .i64 i10c, .slice sac (lo) cac] 32 (0, 0)) by rw [hw21, hp26]; exact setRow_heap _ _ _ _ _ _ (heap_alloc_new w20 _))
      have Y21 := Lib.hid (Buf.then_ hc N21)
      rw [← hw21, ← hp26]
      replace HB9 := Lib.hid (Buf.then_ HB9.out Y21.out)
      replace K9r := Lib.hid (Rec.hb Y21.out K9r.out)
      have RI2 := Lib.hid (RIG.out _ HB9.out)
      clear hw21 hp26 N21 hc Y21 LEF RIG
      go_upto_region 29 with (first | ((with_reducible refine Mid.ldr 32 (.tmp 8) p8 32 #[.string ⟨s0.toArray⟩, .string ⟨s1.toArray⟩, .string ⟨s2.toArray⟩, .string ⟨s3.toArray⟩, .int .i64 st, .int .i64 fi, .int .i64 num, .int .i64 den, .int .i64 er, .int .i64 ru, .int .i64 se, .slice (some ⟨b, 0, none⟩) k cc] K9r.out ?_ ?_ ?_ ?_ ?_ ?_); (· rfl); (· rfl); (· first | rfl | simp [Act.eval]); (· exact ⟨_, rfl, rfl⟩); (· kernel_rfl)) | (go_at_call 12; go_loud (refine RI2.out.mono ?_; rintro e w22 ⟨⟨vd, rfl, hcr⟩, hc⟩; (obtain ⟨u0d, u1d, u2d, u3d, i4d, i5d, i6d, i7d, i8d, i9d, i10d, sad, cad, hv, hcad, hsad⟩ := hcr); (rw [hl4.out] at hv hcad); subst hv; clear hsad)) | ((with_reducible refine Mid.str 32 (.tmp 29) (.tmp 179) w22.heap.size 32 #[.string ⟨#[]⟩, .string ⟨#[]⟩, .string ⟨#[]⟩, .string ⟨#[]⟩, .int .i64 0, .int .i64 0, .int .i64 0, .int .i64 0, .int .i64 0, .int .i64 0, .int .i64 0, .slice none 0 0] #[.string ⟨u0d.toArray⟩, .string ⟨u1d.toArray⟩, .string ⟨u2d.toArray⟩, .string ⟨u3d.toArray⟩, .int .i64 i4d, .int .i64 i5d, .int .i64 i6d, .int .i64 i7d, .int .i64 i8d, .int .i64 i9d, .int .i64 i10d, .slice sad (l4) cad] (heap_alloc_new w22 _) ?_ ?_ ?_ ?_ ?_ ?_ ?_ ?_); (· rfl); (· rfl); (· first | rfl | simp [Act.eval]); (· first | rfl | simp [Act.eval]); (· kernel_rfl); (· rfl); (· simp [Value.oneCell'])))
      obtain ⟨w23, hw23⟩ : ∃ z, z = (w22.alloc (.cells #[.string ⟨#[]⟩, .string ⟨#[]⟩, .string ⟨#[]⟩, .string ⟨#[]⟩, .int .i64 0, .int .i64 0, .int .i64 0, .int .i64 0, .int .i64 0, .int .i64 0, .int .i64 0, .slice none 0 0] 32)).setRow w22.heap.size #[.string ⟨u0d.toArray⟩, .string ⟨u1d.toArray⟩, .string ⟨u2d.toArray⟩, .string ⟨u3d.toArray⟩, .int .i64 i4d, .int .i64 i5d, .int .i64 i6d, .int .i64 i7d, .int .i64 i8d, .int .i64 i9d, .int .i64 i10d, .slice sad (l4) cad] := ⟨_, rfl⟩
      have N23 : Below w22.heap.size w22 w23 := by rw [hw23]; exact Mid.below_row (Rec.new_block _) _ _ (Nat.le_refl _)
      obtain ⟨p29, hp29⟩ : ∃ p, p = w22.heap.size := ⟨_, rfl⟩
      have D29 := Lib.hid (show w23.heap[p29]? = some (.cells #[.string ⟨u0d.toArray⟩, .string ⟨u1d.toArray⟩, .string ⟨u2d.toArray⟩, .string ⟨u3d.toArray⟩, .int .i64 i4d, .int .i64 i5d, .int .i64 i6d, .int .i64 i7d, .int .i64 i8d, .int .i64 i9d, .int .i64 i10d, .slice sad (l4) cad] 32 (0, 0)) by rw [hw23, hp29]; exact setRow_heap _ _ _ _ _ _ (heap_alloc_new w22 _))
      have Y23 := Lib.hid (Buf.then_ hc N23)
      rw [← hw23, ← hp29]
      have HBf := Lib.hid (Buf.then_ HB9.out Y23.out)
      replace K9r := Lib.hid (Rec.hb Y23.out K9r.out)
      replace C26 := Lib.hid (Rec.hb Y23.out C26.out)
      clear hw23 hp29 N23 hc Y23 RI2
      obtain ⟨_, _, _, _, _, _, _, _, _, _, _, q8⟩ := c12 K9r.out
      obtain ⟨_, _, _, _, _, _, _, _, _, _, _, q13⟩ := c12 (Rec.hb HBf.out A13.out)
      obtain ⟨_, _, _, _, _, _, _, _, _, _, _, q16⟩ := c12 (Rec.hb HBf.out A16.out)
      obtain ⟨_, _, _, _, _, _, _, _, _, _, _, q26⟩ := c12 C26.out
      obtain ⟨_, _, _, _, _, _, _, _, _, _, _, q29⟩ := c12 D29.out
      have SN := Lib.hid fun w' => Rec.sane_any w'
      have BF := Lib.hid (Buf.then_ B8.out HBf.out)
      by_cases hw1 : 0 < lo
      · obtain rfl : was = true := hwas.out.trans (decide_eq_true hw1)
        by_cases hw2 : hi < k
        · obtain rfl : has = true := hhas.out.trans (decide_eq_true hw2)
          have E3 : (lo : Int) + (l4 : Int) + (cu : Int) = (k : Int) := by have := SUM.out; omega
          rcases EA with ⟨rfl, ea⟩ | ⟨rfl, ea⟩ <;> rcases EB with ⟨rfl, eb⟩ | ⟨rfl, eb⟩
          · go_wp2_with (go_at_call 7; refine (SN.out _).mono ?_; rintro e w30 ⟨rfl, hc⟩)
            go_ret
            exact ⟨rfl, Buf.then_ BF.out hc⟩
          · go_wp2_with (go_at_call 7; refine (SN.out _).mono ?_; rintro e w30 ⟨rfl, hc⟩)
            go_ret
            exact ⟨rfl, Buf.then_ BF.out hc⟩
          · go_wp2_with (go_at_call 7; refine (SN.out _).mono ?_; rintro e w30 ⟨rfl, hc⟩)
            go_ret
            exact ⟨rfl, Buf.then_ BF.out hc⟩
          · go_wp2_with (go_at_call 7; refine (SN.out _).mono ?_; rintro e w30 ⟨rfl, hc⟩)
            go_ret
            exact ⟨rfl, Buf.then_ BF.out hc⟩
        · obtain rfl : has = false := hhas.out.trans (decide_eq_false hw2)
          have E3 : (lo : Int) + (cu : Int) = (k : Int) := by have := SUM.out; have := hl4.out; omega
          rcases EA with ⟨rfl, ea⟩ | ⟨rfl, ea⟩ <;> rcases EB with ⟨rfl, eb⟩ | ⟨rfl, eb⟩
          · go_wp2_with (go_at_call 7; refine (SN.out _).mono ?_; rintro e w30 ⟨rfl, hc⟩)
            go_ret
            exact ⟨rfl, Buf.then_ BF.out hc⟩
          · go_wp2_with (go_at_call 7; refine (SN.out _).mono ?_; rintro e w30 ⟨rfl, hc⟩)
            go_ret
            exact ⟨rfl, Buf.then_ BF.out hc⟩
          · go_wp2_with (go_at_call 7; refine (SN.out _).mono ?_; rintro e w30 ⟨rfl, hc⟩)
            go_ret
            exact ⟨rfl, Buf.then_ BF.out hc⟩
          · go_wp2_with (go_at_call 7; refine (SN.out _).mono ?_; rintro e w30 ⟨rfl, hc⟩)
            go_ret
            exact ⟨rfl, Buf.then_ BF.out hc⟩
      · obtain rfl : was = false := hwas.out.trans (decide_eq_false hw1)
        by_cases hw2 : hi < k
        · obtain rfl : has = true := hhas.out.trans (decide_eq_true hw2)
          have E3 : (l4 : Int) + (cu : Int) = (k : Int) := by have := SUM.out; omega
          rcases EA with ⟨rfl, ea⟩ | ⟨rfl, ea⟩ <;> rcases EB with ⟨rfl, eb⟩ | ⟨rfl, eb⟩
          · go_wp2_with (go_at_call 7; refine (SN.out _).mono ?_; rintro e w30 ⟨rfl, hc⟩)
            go_ret
            exact ⟨rfl, Buf.then_ BF.out hc⟩
          · go_wp2_with (go_at_call 7; refine (SN.out _).mono ?_; rintro e w30 ⟨rfl, hc⟩)
            go_ret
            exact ⟨rfl, Buf.then_ BF.out hc⟩
          · go_wp2_with (go_at_call 7; refine (SN.out _).mono ?_; rintro e w30 ⟨rfl, hc⟩)
            go_ret
            exact ⟨rfl, Buf.then_ BF.out hc⟩
          · go_wp2_with (go_at_call 7; refine (SN.out _).mono ?_; rintro e w30 ⟨rfl, hc⟩)
            go_ret
            exact ⟨rfl, Buf.then_ BF.out hc⟩
        · obtain rfl : has = false := hhas.out.trans (decide_eq_false hw2)
          obtain rfl : cu = k := by have := SUM.out; have := hl4.out; omega
          rcases EA with ⟨rfl, ea⟩ | ⟨rfl, ea⟩ <;> rcases EB with ⟨rfl, eb⟩ | ⟨rfl, eb⟩
          · go_wp2_with (go_at_call 7; refine (SN.out _).mono ?_; rintro e w30 ⟨rfl, hc⟩)
            go_ret
            exact ⟨rfl, Buf.then_ BF.out hc⟩
          · go_wp2_with (go_at_call 7; refine (SN.out _).mono ?_; rintro e w30 ⟨rfl, hc⟩)
            go_ret
            exact ⟨rfl, Buf.then_ BF.out hc⟩
          · exfalso; omega
          · exfalso; omega
end Laws
end Go.Proofs.Yticdjlpabknaiaa
