/- The walk of RecordParts. -/
import Derived.Test.YtcdncaehihfhnaaRecL
import Derived.Test.YtcdncaehihfhnaaWithinN
import Derived.RegionTactic
set_option linter.unusedVariables false
set_option linter.unusedSimpArgs false
namespace Go.Proofs.Ytcdncaehihfhnaa
open Go.RowKit Wi Dice
namespace Laws
open Rec
set_option maxHeartbeats 8000000 in
set_option maxRecDepth 100000 in
theorem recordParts_walk (a0 : Option Addr) (len0 cap0 : Nat) (z0 : List Int) (a1 : Int) (w : World) (w0 : Buf.IsRow .i64 w a0 len0 cap0 z0) (w1 : (Lit.int .u8 a1).wf = true) :
    Calls Try.prog 3 #[.slice a0 len0 cap0, .int .u8 a1] w fun e w' => e = .returned (.bool true) ∧ Below w.heap.size w w' := by
  obtain ⟨v0, v1⟩ := Ma.wf_u8 w1
  clear w1
  by_cases hs : len0 ≤ 500
  · have hd : decide ((len0 : Int) ≤ 500) = true := by simp; omega
    go_enter Try.func3, Try.ntmps3
    go_wp2_with (first | (go_at_call 6; refine (light_any _ _ _ _).mono ?_; rintro e w1 ⟨rfl, hw⟩; replace hw := hw.symm; subst hw; rw [hd]) | (go_at_call 8; refine (roll_any a0 len0 cap0 z0 _ w0 hs).mono ?_; rintro e w2 ⟨rfl, hdi⟩))
    refine (Rec.source_any hdi).mono ?_
    rintro e w4 ⟨⟨s0, s1, s2, s3, rfl, q0, q1, q2, q3⟩, hl⟩
    have hS := Sc.src4_of q0 q1 q2 q3
    replace L0 := Lib.hid ((Dice.Left.refl hdi).trans hl)
    clear hl q0 q1 q2 q3
    go_wp2_with fail
    refine (Rec.record_any ⟨s0.toArray⟩ ⟨s1.toArray⟩ ⟨s2.toArray⟩ ⟨s3.toArray⟩ 12 (by decide) (by decide) L0.out.di).mono ?_
    rintro e w5 ⟨⟨st, fi, num, den, er, ru, se, ad, kk, cc, xs, rfl, HN, ⟨va, vb, gg, hdv, ha, hb', hnum, hden⟩, hown, hkx, k1, k9, HX⟩, hl⟩
    have hl0 := L0
    replace L0 := Lib.hid (L0.out.trans hl)
    have rv : Rate.RV num den := by rw [← hnum, ← hden]; exact hdv.rv
    have er0 : 0 ≤ er ∧ er ≤ 1000 := by have := HN.er_; simp only [List.mem_cons, List.not_mem_nil, or_false] at this; omega
    have fi0 : 0 ≤ fi ∧ fi ≤ 3 := by have := HN.fi_; simp only [List.mem_cons, List.not_mem_nil, or_false] at this; omega
    have P : RP s0 s1 s2 s3 st fi num den er ru se := ⟨hS, by have := HN.s0; omega, by have := HN.s9; omega, fi0.1, by omega, rv, er0.1, er0.2, HN.r0, by have := HN.r9; omega, HN.q0, by have := HN.q9; omega⟩
    obtain ⟨b, c, hsl, sr, hkc, hc9, hbw⟩ := Rec.sr_own (xs := xs) hown hkx k1
    have gl := hdi.lt
    obtain ⟨rfl, rfl⟩ : ad = some ⟨b, 0, none⟩ ∧ cc = c := by injection hsl with p q r; exact ⟨p, r⟩
    have X : RX w5 b kk cc xs := ⟨sr, hkx, k1, by omega, hkc, hc9, fun x hx => by have := HX x hx; omega⟩
    have f3 := fi0.2
    have f0 := fi0.1
    replace P := Lib.hid P
    replace X := Lib.hid X
    replace hbw : w2.heap.size ≤ b := Nat.le_trans hl0.out.far.size hbw
    clear hl0
    clear hl hsl hown hdv ha hb' hnum hden HN HX hdi sr hkx hkc hc9 rv er0 fi0 hS
    go_upto_region 5 with ((with_reducible refine Mid.str 32 (.tmp 6) (.tmp 39) w5.heap.size 32 #[.string ⟨#[]⟩, .string ⟨#[]⟩, .string ⟨#[]⟩, .string ⟨#[]⟩, .int .i64 0, .int .i64 0, .int .i64 0, .int .i64 0, .int .i64 0, .int .i64 0, .int .i64 0, .slice none 0 0] #[.string ⟨s0.toArray⟩, .string ⟨s1.toArray⟩, .string ⟨s2.toArray⟩, .string ⟨s3.toArray⟩, .int .i64 st, .int .i64 fi, .int .i64 num, .int .i64 den, .int .i64 er, .int .i64 ru, .int .i64 se, .slice (some ⟨b, 0, none⟩) kk cc] (heap_alloc_new w5 _) ?_ ?_ ?_ ?_ ?_ ?_ ?_ ?_); (· rfl); (· rfl); (· first | rfl | simp [Act.eval]); (· first | rfl | simp [Act.eval]); (· kernel_rfl); (· rfl); (· simp [Value.oneCell']))
    obtain ⟨w6, hw6⟩ : ∃ w6, w6 = (w5.alloc (.cells #[.string ⟨#[]⟩, .string ⟨#[]⟩, .string ⟨#[]⟩, .string ⟨#[]⟩, .int .i64 0, .int .i64 0, .int .i64 0, .int .i64 0, .int .i64 0, .int .i64 0, .int .i64 0, .slice none 0 0] 32)).setRow w5.heap.size #[.string ⟨s0.toArray⟩, .string ⟨s1.toArray⟩, .string ⟨s2.toArray⟩, .string ⟨s3.toArray⟩, .int .i64 st, .int .i64 fi, .int .i64 num, .int .i64 den, .int .i64 er, .int .i64 ru, .int .i64 se, .slice (some ⟨b, 0, none⟩) kk cc] := ⟨_, rfl⟩
    have N6 : Below w5.heap.size w5 w6 := by rw [hw6]; exact Mid.below_row (Rec.new_block _) _ _ (Nat.le_refl _)
    have K6 := Lib.hid (show w6.heap[w5.heap.size]? = some (.cells #[.string ⟨s0.toArray⟩, .string ⟨s1.toArray⟩, .string ⟨s2.toArray⟩, .string ⟨s3.toArray⟩, .int .i64 st, .int .i64 fi, .int .i64 num, .int .i64 den, .int .i64 er, .int .i64 ru, .int .i64 se, .slice (some ⟨b, 0, none⟩) kk cc] 32 (0, 0)) by rw [hw6]; exact setRow_heap _ _ _ _ _ _ (heap_alloc_new w5 _))
    have L6 := Lib.hid (L0.out.below N6)
    have X6 := Lib.hid (X.out.keep N6)
    rw [← hw6]
    obtain ⟨p6, hp6⟩ : ∃ p, p = w5.heap.size := ⟨_, rfl⟩
    have gp : w2.heap.size ≤ p6 := by rw [hp6]; exact L0.out.far.size
    rw [← hp6] at K6 ⊢
    clear hw6 N6 L0 X hp6
    obtain ⟨x0, x1, x2, x3, x4, x5, x6, x7, x8, x9, x10, x11⟩ := c12 K6.out
    by_cases h2 : kk < 2
    · have kk2 : (kk : Int) < 2 := by omega
      go_wp2_with (first | (go_at_call 7; refine (Rec.sane_any _).mono ?_; rintro e w9 ⟨rfl, hc⟩))
      go_ret
      exact ⟨rfl, Buf.then_ L6.out.di.bel hc⟩
    have kk2 : ¬ ((kk : Int) < 2) := by omega
    obtain ⟨K, hK, kl1, kl9⟩ := Rec.mod_k a1 ((kk : Int) - 1) v0 (by omega)
    have cv : IntKind.i64.wrap a1 = a1 := IntWalk.i64_in _ (by omega)
    replace hK := hK.symm
    go_upto_region 8 with fail
    replace hK := Lib.hid hK
    have kkn : K < kk := by omega
    clear x0 x1 x2 x3 x4 x5 x6 x7 x8 x9 x10 x11 kl9 cv h2 kk2
    have SA := Lib.hid (Rec.sub_zero P.out X6.out K (by omega) (by omega))
    go_upto_region 9 with (first | ((with_reducible refine Mid.ldr 32 (.tmp 6) p6 32 #[.string ⟨s0.toArray⟩, .string ⟨s1.toArray⟩, .string ⟨s2.toArray⟩, .string ⟨s3.toArray⟩, .int .i64 st, .int .i64 fi, .int .i64 num, .int .i64 den, .int .i64 er, .int .i64 ru, .int .i64 se, .slice (some ⟨b, 0, none⟩) kk cc] K6.out ?_ ?_ ?_ ?_ ?_ ?_); (· rfl); (· rfl); (· first | rfl | simp [Act.eval]); (· exact ⟨_, rfl, rfl⟩); (· kernel_rfl)) | (go_at_call 11; with_reducible refine SA.out.mono ?_; rintro e w7 ⟨⟨ga, ca, rfl, XA, hga⟩, hc⟩; (have K7 := Lib.hid (Rec.hb hc K6.out)); (have X7 := Lib.hid (X6.out.keep hc)); (have L7 := Lib.hid (L6.out.below hc)); clear hc) | ((with_reducible refine Mid.str 32 (.tmp 8) (.tmp 57) w7.heap.size 32 #[.string ⟨#[]⟩, .string ⟨#[]⟩, .string ⟨#[]⟩, .string ⟨#[]⟩, .int .i64 0, .int .i64 0, .int .i64 0, .int .i64 0, .int .i64 0, .int .i64 0, .int .i64 0, .slice none 0 0] #[.string ⟨s0.toArray⟩, .string ⟨s1.toArray⟩, .string ⟨s2.toArray⟩, .string ⟨s3.toArray⟩, .int .i64 st, .int .i64 fi, .int .i64 num, .int .i64 den, .int .i64 er, .int .i64 ru, .int .i64 se, .slice (some ⟨ga, 0, none⟩) K ca] (heap_alloc_new w7 _) ?_ ?_ ?_ ?_ ?_ ?_ ?_ ?_); (· rfl); (· rfl); (· first | rfl | simp [Act.eval]); (· first | rfl | simp [Act.eval]); (· kernel_rfl); (· rfl); (· simp [Value.oneCell'])))
    obtain ⟨w8, hw8⟩ : ∃ w8, w8 = (w7.alloc (.cells #[.string ⟨#[]⟩, .string ⟨#[]⟩, .string ⟨#[]⟩, .string ⟨#[]⟩, .int .i64 0, .int .i64 0, .int .i64 0, .int .i64 0, .int .i64 0, .int .i64 0, .int .i64 0, .slice none 0 0] 32)).setRow w7.heap.size #[.string ⟨s0.toArray⟩, .string ⟨s1.toArray⟩, .string ⟨s2.toArray⟩, .string ⟨s3.toArray⟩, .int .i64 st, .int .i64 fi, .int .i64 num, .int .i64 den, .int .i64 er, .int .i64 ru, .int .i64 se, .slice (some ⟨ga, 0, none⟩) K ca] := ⟨_, rfl⟩
    have N8 : Below w7.heap.size w7 w8 := by rw [hw8]; exact Mid.below_row (Rec.new_block _) _ _ (Nat.le_refl _)
    have A8 := Lib.hid (show w8.heap[w7.heap.size]? = some (.cells #[.string ⟨s0.toArray⟩, .string ⟨s1.toArray⟩, .string ⟨s2.toArray⟩, .string ⟨s3.toArray⟩, .int .i64 st, .int .i64 fi, .int .i64 num, .int .i64 den, .int .i64 er, .int .i64 ru, .int .i64 se, .slice (some ⟨ga, 0, none⟩) K ca] 32 (0, 0)) by rw [hw8]; exact setRow_heap _ _ _ _ _ _ (heap_alloc_new w7 _))
    have L8 := Lib.hid (L7.out.below N8)
    have X8 := Lib.hid (X7.out.keep N8)
    have XA8 := Lib.hid (XA.keep N8)
    have K8 := Lib.hid (Rec.hb N8 K7.out)
    rw [← hw8]
    obtain ⟨p8, hp8⟩ : ∃ p, p = w7.heap.size := ⟨_, rfl⟩
    rw [← hp8] at A8 ⊢
    clear hw8 N8 L7 X7 XA K7 hp8 SA K6 L6 X6 hga
    obtain ⟨x0, x1, x2, x3, x4, x5, x6, x7, x8, x9, x10, x11⟩ := c12 K8.out
    obtain ⟨fk, hfk⟩ : ∃ fk, fk = fi + (K : Int) := ⟨_, rfl⟩
    have PK : RP s0 s1 s2 s3 st fk num den er ru se := by rw [hfk]; exact P.out.more _ (by omega) (by omega)
    replace PK := Lib.hid PK
    have SB := Lib.hid (Rec.sub_any P.out X8.out K kk kkn (Nat.le_refl _))
    rw [← hfk] at SB
    replace hfk := Lib.hid hfk
    go_upto_region 10 with (first | ((with_reducible refine Mid.ldr 32 (.tmp 6) p6 32 #[.string ⟨s0.toArray⟩, .string ⟨s1.toArray⟩, .string ⟨s2.toArray⟩, .string ⟨s3.toArray⟩, .int .i64 st, .int .i64 fi, .int .i64 num, .int .i64 den, .int .i64 er, .int .i64 ru, .int .i64 se, .slice (some ⟨b, 0, none⟩) kk cc] K8.out ?_ ?_ ?_ ?_ ?_ ?_); (· rfl); (· rfl); (· first | rfl | simp [Act.eval]); (· exact ⟨_, rfl, rfl⟩); (· kernel_rfl)) | (go_at_call 11; with_reducible refine SB.out.mono ?_; rintro e w9 ⟨⟨gb, cb, rfl, XB, hgb⟩, hc⟩; (have K9 := Lib.hid (Rec.hb hc K8.out)); (have A9 := Lib.hid (Rec.hb hc A8.out)); (have X9 := Lib.hid (X8.out.keep hc)); (have XA9 := Lib.hid (XA8.out.keep hc)); (have L9 := Lib.hid (L8.out.below hc)); clear hc) | ((with_reducible refine Mid.str 32 (.tmp 10) (.tmp 66) w9.heap.size 32 #[.string ⟨#[]⟩, .string ⟨#[]⟩, .string ⟨#[]⟩, .string ⟨#[]⟩, .int .i64 0, .int .i64 0, .int .i64 0, .int .i64 0, .int .i64 0, .int .i64 0, .int .i64 0, .slice none 0 0] #[.string ⟨s0.toArray⟩, .string ⟨s1.toArray⟩, .string ⟨s2.toArray⟩, .string ⟨s3.toArray⟩, .int .i64 st, .int .i64 fk, .int .i64 num, .int .i64 den, .int .i64 er, .int .i64 ru, .int .i64 se, .slice (some ⟨gb, 0, none⟩) ((kk - K)) cb] (heap_alloc_new w9 _) ?_ ?_ ?_ ?_ ?_ ?_ ?_ ?_); (· rfl); (· rfl); (· first | rfl | simp [Act.eval]); (· first | rfl | simp [Act.eval]); (· kernel_rfl); (· rfl); (· simp [Value.oneCell'])))
    obtain ⟨w10, hw10⟩ : ∃ w10, w10 = (w9.alloc (.cells #[.string ⟨#[]⟩, .string ⟨#[]⟩, .string ⟨#[]⟩, .string ⟨#[]⟩, .int .i64 0, .int .i64 0, .int .i64 0, .int .i64 0, .int .i64 0, .int .i64 0, .int .i64 0, .slice none 0 0] 32)).setRow w9.heap.size #[.string ⟨s0.toArray⟩, .string ⟨s1.toArray⟩, .string ⟨s2.toArray⟩, .string ⟨s3.toArray⟩, .int .i64 st, .int .i64 fk, .int .i64 num, .int .i64 den, .int .i64 er, .int .i64 ru, .int .i64 se, .slice (some ⟨gb, 0, none⟩) ((kk - K)) cb] := ⟨_, rfl⟩
    have N10 : Below w9.heap.size w9 w10 := by rw [hw10]; exact Mid.below_row (Rec.new_block _) _ _ (Nat.le_refl _)
    have B10 := Lib.hid (show w10.heap[w9.heap.size]? = some (.cells #[.string ⟨s0.toArray⟩, .string ⟨s1.toArray⟩, .string ⟨s2.toArray⟩, .string ⟨s3.toArray⟩, .int .i64 st, .int .i64 fk, .int .i64 num, .int .i64 den, .int .i64 er, .int .i64 ru, .int .i64 se, .slice (some ⟨gb, 0, none⟩) ((kk - K)) cb] 32 (0, 0)) by rw [hw10]; exact setRow_heap _ _ _ _ _ _ (heap_alloc_new w9 _))
    have L10 := Lib.hid (L9.out.below N10)
    have X10 := Lib.hid (X9.out.keep N10)
    have XA10 := Lib.hid (XA9.out.keep N10)
    have XB10 := Lib.hid (XB.keep N10)
    have K10 := Lib.hid (Rec.hb N10 K9.out)
    have A10 := Lib.hid (Rec.hb N10 A9.out)
    rw [← hw10]
    obtain ⟨p10, hp10⟩ : ∃ p, p = w9.heap.size := ⟨_, rfl⟩
    rw [← hp10] at B10 ⊢
    have gbw : w2.heap.size ≤ gb := by have := L8.out.far.size; omega
    have p10w : w2.heap.size ≤ p10 := by have := L9.out.far.size; omega
    clear hw10 N10 L9 X9 XA9 XB K9 A9 hp10 SB K8 A8 L8 X8 XA8 hgb x0 x1 x2 x3 x4 x5 x6 x7 x8 x9 x10 x11
    have hBK := Lib.hid (show (((kk - K : Nat) : Int)) = (kk : Int) - K by omega)
    obtain ⟨T0, hT0⟩ : ∃ t, t = tm st fi num den 0 := ⟨_, rfl⟩
    obtain ⟨TK, hTK⟩ : ∃ t, t = tm st fi num den (K : Int) := ⟨_, rfl⟩
    obtain ⟨TN, hTN⟩ : ∃ t, t = tm st fi num den (kk : Int) := ⟨_, rfl⟩
    have hb0 : tm st fk num den 0 = TK := by rw [hfk.out, Rec.tm_add, hTK, Int.add_zero]
    have hbn : tm st fk num den ((kk - K : Nat) : Int) = TN := by rw [hfk.out, Rec.tm_add, hTN, hBK.out]; congr 1; omega
    have VA := Lib.hid (Rec.span_any P.out XA10.out)
    rw [← hT0, ← hTK] at VA
    have FO := Lib.hid (fun (w' : World) (h' : Below w10.heap.size w10 w') => Rec.follows_any P.out PK.out (XA10.out.keep h') (XB10.out.keep h') (hb0.trans hTK))
    replace hT0 := Lib.hid hT0
    replace hTK := Lib.hid hTK
    replace hTN := Lib.hid hTN
    replace hb0 := Lib.hid hb0
    replace hbn := Lib.hid hbn
    go_upto_region 11 with (first | ((with_reducible refine Mid.ldr 32 (.tmp 8) p8 32 #[.string ⟨s0.toArray⟩, .string ⟨s1.toArray⟩, .string ⟨s2.toArray⟩, .string ⟨s3.toArray⟩, .int .i64 st, .int .i64 fi, .int .i64 num, .int .i64 den, .int .i64 er, .int .i64 ru, .int .i64 se, .slice (some ⟨ga, 0, none⟩) K ca] A10.out ?_ ?_ ?_ ?_ ?_ ?_); (· rfl); (· rfl); (· first | rfl | simp [Act.eval]); (· exact ⟨_, rfl, rfl⟩); (· kernel_rfl)) | (go_at_call 12; with_reducible refine VA.out.mono ?_; rintro e w11 ⟨rfl, hc⟩; (have Z11 := Lib.hid hc); clear hc) | ((with_reducible refine Mid.str 39 (.tmp 12) (.tmp 71) w11.heap.size 39 #[.int .i64 0, .int .i64 0] #[.int .i64 T0, .int .i64 TK] (heap_alloc_new w11 _) ?_ ?_ ?_ ?_ ?_ ?_ ?_ ?_); (· rfl); (· rfl); (· first | rfl | simp [Act.eval]); (· first | rfl | simp [Act.eval]); (· kernel_rfl); (· rfl); (· simp [Value.oneCell'])))
    have VB := Lib.hid (fun (w' : World) (h' : Below w10.heap.size w10 w') => Rec.span_any PK.out (XB10.out.keep h'))
    rw [hb0.out, hbn.out] at VB
    have VC := Lib.hid (fun (w' : World) (h' : Below w10.heap.size w10 w') => Rec.span_any P.out (X10.out.keep h'))
    rw [← hT0.out, ← hTN.out] at VC
    obtain ⟨w12, hw12⟩ : ∃ w12, w12 = (w11.alloc (.cells #[.int .i64 0, .int .i64 0] 39)).setRow w11.heap.size #[.int .i64 T0, .int .i64 TK] := ⟨_, rfl⟩
    have N12 : Below w11.heap.size w11 w12 := by rw [hw12]; exact Mid.below_row (Rec.new_block _) _ _ (Nat.le_refl _)
    have P12 := Lib.hid (show w12.heap[w11.heap.size]? = some (.cells #[.int .i64 T0, .int .i64 TK] 39 (0, 0)) by rw [hw12]; exact setRow_heap _ _ _ _ _ _ (heap_alloc_new w11 _))
    have Z12 := Lib.hid (Buf.then_ Z11.out N12)
    rw [← hw12]
    obtain ⟨pa, hpa⟩ : ∃ p, p = w11.heap.size := ⟨_, rfl⟩
    rw [← hpa] at P12 ⊢
    clear hw12 N12 hpa VA Z11
    go_upto_region 12 with (first | ((with_reducible refine Mid.ldr 32 (.tmp 10) p10 32 #[.string ⟨s0.toArray⟩, .string ⟨s1.toArray⟩, .string ⟨s2.toArray⟩, .string ⟨s3.toArray⟩, .int .i64 st, .int .i64 fk, .int .i64 num, .int .i64 den, .int .i64 er, .int .i64 ru, .int .i64 se, .slice (some ⟨gb, 0, none⟩) ((kk - K)) cb] (Rec.hb Z12.out B10.out) ?_ ?_ ?_ ?_ ?_ ?_); (· rfl); (· rfl); (· first | rfl | simp [Act.eval]); (· exact ⟨_, rfl, rfl⟩); (· kernel_rfl)) | (go_at_call 12; with_reducible refine (VB.out _ Z12.out).mono ?_; rintro e w13 ⟨rfl, hc⟩; (have Z13 := Lib.hid (Buf.then_ Z12.out hc)); (have P13 := Lib.hid (Rec.hb hc P12.out)); clear hc) | ((with_reducible refine Mid.str 39 (.tmp 14) (.tmp 76) w13.heap.size 39 #[.int .i64 0, .int .i64 0] #[.int .i64 TK, .int .i64 TN] (heap_alloc_new w13 _) ?_ ?_ ?_ ?_ ?_ ?_ ?_ ?_); (· rfl); (· rfl); (· first | rfl | simp [Act.eval]); (· first | rfl | simp [Act.eval]); (· kernel_rfl); (· rfl); (· simp [Value.oneCell'])))
    obtain ⟨w14, hw14⟩ : ∃ w14, w14 = (w13.alloc (.cells #[.int .i64 0, .int .i64 0] 39)).setRow w13.heap.size #[.int .i64 TK, .int .i64 TN] := ⟨_, rfl⟩
    have N14 : Below w13.heap.size w13 w14 := by rw [hw14]; exact Mid.below_row (Rec.new_block _) _ _ (Nat.le_refl _)
    have Q14 := Lib.hid (show w14.heap[w13.heap.size]? = some (.cells #[.int .i64 TK, .int .i64 TN] 39 (0, 0)) by rw [hw14]; exact setRow_heap _ _ _ _ _ _ (heap_alloc_new w13 _))
    have P14 := Lib.hid (Rec.hb N14 P13.out)
    have Z14 := Lib.hid (Buf.then_ Z13.out N14)
    rw [← hw14]
    obtain ⟨pb, hpb⟩ : ∃ p, p = w13.heap.size := ⟨_, rfl⟩
    rw [← hpb] at Q14 ⊢
    clear hw14 N14 hpb VB Z12 Z13 P12 P13
    go_upto_region 13 with (first | ((with_reducible refine Mid.ldr 32 (.tmp 6) p6 32 #[.string ⟨s0.toArray⟩, .string ⟨s1.toArray⟩, .string ⟨s2.toArray⟩, .string ⟨s3.toArray⟩, .int .i64 st, .int .i64 fi, .int .i64 num, .int .i64 den, .int .i64 er, .int .i64 ru, .int .i64 se, .slice (some ⟨b, 0, none⟩) kk cc] (Rec.hb Z14.out K10.out) ?_ ?_ ?_ ?_ ?_ ?_); (· rfl); (· rfl); (· first | rfl | simp [Act.eval]); (· exact ⟨_, rfl, rfl⟩); (· kernel_rfl)) | (go_at_call 12; with_reducible refine (VC.out _ Z14.out).mono ?_; rintro e w15 ⟨rfl, hc⟩; (have Z15 := Lib.hid (Buf.then_ Z14.out hc)); (have P15 := Lib.hid (Rec.hb hc P14.out)); (have Q15 := Lib.hid (Rec.hb hc Q14.out)); clear hc) | ((with_reducible refine Mid.str 39 (.tmp 16) (.tmp 81) w15.heap.size 39 #[.int .i64 0, .int .i64 0] #[.int .i64 T0, .int .i64 TN] (heap_alloc_new w15 _) ?_ ?_ ?_ ?_ ?_ ?_ ?_ ?_); (· rfl); (· rfl); (· first | rfl | simp [Act.eval]); (· first | rfl | simp [Act.eval]); (· kernel_rfl); (· rfl); (· simp [Value.oneCell'])))
    obtain ⟨w16, hw16⟩ : ∃ w16, w16 = (w15.alloc (.cells #[.int .i64 0, .int .i64 0] 39)).setRow w15.heap.size #[.int .i64 T0, .int .i64 TN] := ⟨_, rfl⟩
    have N16 : Below w15.heap.size w15 w16 := by rw [hw16]; exact Mid.below_row (Rec.new_block _) _ _ (Nat.le_refl _)
    have R16 := Lib.hid (show w16.heap[w15.heap.size]? = some (.cells #[.int .i64 T0, .int .i64 TN] 39 (0, 0)) by rw [hw16]; exact setRow_heap _ _ _ _ _ _ (heap_alloc_new w15 _))
    have P16 := Lib.hid (Rec.hb N16 P15.out)
    have Q16 := Lib.hid (Rec.hb N16 Q15.out)
    have Z16 := Lib.hid (Buf.then_ Z15.out N16)
    rw [← hw16]
    obtain ⟨pc, hpc⟩ : ∃ p, p = w15.heap.size := ⟨_, rfl⟩
    rw [← hpc] at R16 ⊢
    clear hw16 N16 hpc VC Z14 Z15 P14 Q14 P15 Q15
    have A16 := Rec.hb Z16.out A10.out
    have B16 := Rec.hb Z16.out B10.out
    obtain ⟨x0, x1, x2, x3, x4, x5, x6, x7, x8, x9, x10, x11⟩ := c12 A16
    obtain ⟨y0, y1, y2, y3, y4, y5, y6, y7, y8, y9, y10, y11⟩ := c12 B16
    obtain ⟨pa0, pa1⟩ := Rec.c2 P16.out
    obtain ⟨pb0, pb1⟩ := Rec.c2 Q16.out
    obtain ⟨pc0, pc1⟩ := Rec.c2 R16.out
    clear A16 B16
    go_upto_region 15 with (first | (go_at_call 13; with_reducible refine (FO.out _ Z16.out).mono ?_; rintro e w17 ⟨rfl, hc⟩; (have Z17 := Lib.hid (Buf.then_ Z16.out hc)); clear hc))
    clear x0 x1 x2 x3 x4 x5 x6 x7 x8 x9 x10 x11 y0 y1 y2 y3 y4 y5 y6 y7 y8 y9 y10 y11 pa0 pa1 pb0 pb1 pc0 pc1 P16 Q16 R16 Z16 FO
    have K17 := Lib.hid (Rec.hb Z17.out K10.out)
    have A17 := Lib.hid (Rec.hb Z17.out A10.out)
    have B17 := Lib.hid (Rec.hb Z17.out B10.out)
    have X17 := Lib.hid (X10.out.keep Z17.out)
    have XA17 := Lib.hid (XA10.out.keep Z17.out)
    have XB17 := Lib.hid (XB10.out.keep Z17.out)
    have L17 := Lib.hid (L10.out.below Z17.out)
    clear K10 A10 B10 X10 XA10 XB10 L10 Z17
    obtain ⟨x0, x1, x2, x3, x4, x5, x6, x7, x8, x9, x10, x11⟩ := c12 K17.out
    go_wp2_with fail
    clear x0 x1 x2 x3 x4 x5 x6 x7 x8 x9 x10 x11
    have RLT : ∀ {k : Nat}, k < kk → (k : Int) < (kk : Int) := by intro k h; omega
    go_loopw [131] (fun i wr => ∃ k : Nat, k ≤ kk ∧ i = .int .i64 k ∧ Hid (Below w17.heap.size w17 wr)) (fun i _ => kk - (intOf i).toNat)
    case atStart => exact ⟨0, by omega, rfl, Lib.hid (Below.refl _ _)⟩
    case round =>
      obtain ⟨k, hk, rfl, hw⟩ := hrel
      by_cases hlt : k < kk
      · have kn : (k : Int) < (kk : Int) := by omega
        obtain ⟨c1, d0, d9⟩ := X17.out.at_ hlt
        have AT := Lib.hid (fun (w' : World) (h' : Below w17.heap.size w17 w') => Rec.at_any P.out (X17.out.keep h') (k : Int) (by omega) (by omega))
        obtain ⟨dv, hdv⟩ : ∃ dv, dv = xs.getD k 0 := ⟨_, rfl⟩
        rw [← hdv] at c1
        replace c1 := Lib.hid c1
        clear d0 d9
        by_cases hkK : k < K
        · have kK : (k : Int) < (K : Int) := by omega
          have kK2 : ((k : Int) ≥ (K : Int)) = False := by simp; omega
          obtain ⟨c2, _, _⟩ := XA17.out.at_ hkK
          rw [Rec.cutl_get (by omega), Nat.zero_add, ← hdv] at c2
          replace c2 := Lib.hid c2
          have A2 := Lib.hid (fun (w' : World) (h' : Below w17.heap.size w17 w') => Rec.at_any P.out (XA17.out.keep h') (k : Int) (by omega) (by omega))
          generalize tm st fi num den (k : Int) = tk at AT A2
          go_upto_region 19 with (first | ((with_reducible refine Mid.ldr 32 (.tmp 6) p6 32 #[.string ⟨s0.toArray⟩, .string ⟨s1.toArray⟩, .string ⟨s2.toArray⟩, .string ⟨s3.toArray⟩, .int .i64 st, .int .i64 fi, .int .i64 num, .int .i64 den, .int .i64 er, .int .i64 ru, .int .i64 se, .slice (some ⟨b, 0, none⟩) kk cc] (Rec.hb hw.out K17.out) ?_ ?_ ?_ ?_ ?_ ?_); (· rfl); (· rfl); (· first | rfl | simp [Act.eval]); (· exact ⟨_, rfl, rfl⟩); (· kernel_rfl)) | (go_at_call 14; with_reducible refine (AT.out _ hw.out).mono ?_; rintro e w18 ⟨rfl, hc⟩; (have Z18 := Lib.hid (Buf.then_ hw.out hc)); clear hc))
          have K18 := Rec.hb Z18.out K17.out
          have A18 := Rec.hb Z18.out A17.out
          go_upto_region 20 with (first | ((with_reducible refine Mid.ldr 32 (.tmp 8) p8 32 #[.string ⟨s0.toArray⟩, .string ⟨s1.toArray⟩, .string ⟨s2.toArray⟩, .string ⟨s3.toArray⟩, .int .i64 st, .int .i64 fi, .int .i64 num, .int .i64 den, .int .i64 er, .int .i64 ru, .int .i64 se, .slice (some ⟨ga, 0, none⟩) K ca] A18 ?_ ?_ ?_ ?_ ?_ ?_); (· rfl); (· rfl); (· first | rfl | simp [Act.eval]); (· exact ⟨_, rfl, rfl⟩); (· kernel_rfl)) | ((with_reducible refine Mid.str 32 (.tmp 21) (.tmp 140) w18.heap.size 32 #[.string ⟨#[]⟩, .string ⟨#[]⟩, .string ⟨#[]⟩, .string ⟨#[]⟩, .int .i64 0, .int .i64 0, .int .i64 0, .int .i64 0, .int .i64 0, .int .i64 0, .int .i64 0, .slice none 0 0] #[.string ⟨s0.toArray⟩, .string ⟨s1.toArray⟩, .string ⟨s2.toArray⟩, .string ⟨s3.toArray⟩, .int .i64 st, .int .i64 fi, .int .i64 num, .int .i64 den, .int .i64 er, .int .i64 ru, .int .i64 se, .slice (some ⟨ga, 0, none⟩) K ca] (heap_alloc_new w18 _) ?_ ?_ ?_ ?_ ?_ ?_ ?_ ?_); (· rfl); (· rfl); (· first | rfl | simp [Act.eval]); (· first | rfl | simp [Act.eval]); (· kernel_rfl); (· rfl); (· simp [Value.oneCell'])))
          obtain ⟨w19, hw19⟩ : ∃ w19, w19 = (w18.alloc (.cells #[.string ⟨#[]⟩, .string ⟨#[]⟩, .string ⟨#[]⟩, .string ⟨#[]⟩, .int .i64 0, .int .i64 0, .int .i64 0, .int .i64 0, .int .i64 0, .int .i64 0, .int .i64 0, .slice none 0 0] 32)).setRow w18.heap.size #[.string ⟨s0.toArray⟩, .string ⟨s1.toArray⟩, .string ⟨s2.toArray⟩, .string ⟨s3.toArray⟩, .int .i64 st, .int .i64 fi, .int .i64 num, .int .i64 den, .int .i64 er, .int .i64 ru, .int .i64 se, .slice (some ⟨ga, 0, none⟩) K ca] := ⟨_, rfl⟩
          have N19 : Below w18.heap.size w18 w19 := by rw [hw19]; exact Mid.below_row (Rec.new_block _) _ _ (Nat.le_refl _)
          have Q19 := Lib.hid (show w19.heap[w18.heap.size]? = some (.cells #[.string ⟨s0.toArray⟩, .string ⟨s1.toArray⟩, .string ⟨s2.toArray⟩, .string ⟨s3.toArray⟩, .int .i64 st, .int .i64 fi, .int .i64 num, .int .i64 den, .int .i64 er, .int .i64 ru, .int .i64 se, .slice (some ⟨ga, 0, none⟩) K ca] 32 (0, 0)) by rw [hw19]; exact setRow_heap _ _ _ _ _ _ (heap_alloc_new w18 _))
          have Z19 := Lib.hid (Buf.then_ Z18.out N19)
          rw [← hw19]
          obtain ⟨pq, hpq⟩ : ∃ p, p = w18.heap.size := ⟨_, rfl⟩
          rw [← hpq] at Q19 ⊢
          clear hw19 N19 hpq K18 A18 Z18
          go_upto_region 23 with (first | ((with_reducible refine Mid.ldr 32 (.tmp 21) pq 32 #[.string ⟨s0.toArray⟩, .string ⟨s1.toArray⟩, .string ⟨s2.toArray⟩, .string ⟨s3.toArray⟩, .int .i64 st, .int .i64 fi, .int .i64 num, .int .i64 den, .int .i64 er, .int .i64 ru, .int .i64 se, .slice (some ⟨ga, 0, none⟩) K ca] Q19.out ?_ ?_ ?_ ?_ ?_ ?_); (· rfl); (· rfl); (· first | rfl | simp [Act.eval]); (· exact ⟨_, rfl, rfl⟩); (· kernel_rfl)) | (go_at_call 14; with_reducible refine (A2.out _ Z19.out).mono ?_; rintro e w20 ⟨rfl, hc⟩; (have Z20 := Lib.hid (Buf.then_ Z19.out hc)); (have Q20 := Lib.hid (Rec.hb hc Q19.out)); clear hc))
          clear Z19 Q19 AT A2
          have i1 := (World.cell?_of_block (a := ⟨b, k, none⟩) (Z20.out.block b X17.out.sr.1)).trans c1.out
          have i2 := (World.cell?_of_block (a := ⟨ga, k, none⟩) (Z20.out.block ga XA17.out.sr.1)).trans c2.out
          obtain ⟨x0, x1, x2, x3, x4, x5, x6, x7, x8, x9, x10, x11⟩ := c12 Q20.out
          obtain ⟨y0, y1, y2, y3, y4, y5, y6, y7, y8, y9, y10, y11⟩ := c12 (Rec.hb Z20.out K17.out)
          have edd : (dv != dv) = false := by simp
          have ett : (tk != tk) = false := by simp
          go_quiet (fail)
          go_wp2_with fail
          go_roundw
          case rel => exact ⟨k + 1, by omega, by go_num, Lib.hid (Buf.below_drewN Z20.out _)⟩
          case measure => simp [intOf]; omega
        · have kK2 : ((k : Int) ≥ (K : Int)) = True := by simp; omega
          obtain ⟨j, hj⟩ : ∃ j, k = K + j := ⟨k - K, by omega⟩
          have ej : IntKind.i64.wrap ((k : Int) - (K : Int)) = (j : Int) := by rw [show (k : Int) - (K : Int) = (j : Int) by omega]; exact IntWalk.i64_in _ (by omega)
          have ej2 : (k : Int) - (K : Int) = (j : Int) := by omega
          have ek : (k : Int) = (K : Int) + (j : Int) := by omega
          have jn : j < kk - K := by omega
          have jni : (j : Int) < ((kk - K : Nat) : Int) := by omega
          obtain ⟨c2, _, _⟩ := XB17.out.at_ jn
          rw [Rec.cutl_get jn, ← hj, ← hdv] at c2
          replace c2 := Lib.hid c2
          have A2 := Lib.hid (fun (w' : World) (h' : Below w17.heap.size w17 w') => Rec.at_any PK.out (XB17.out.keep h') (j : Int) (by omega) (by omega))
          rw [show tm st fk num den (j : Int) = tm st fi num den (k : Int) by rw [hfk.out, Rec.tm_add, ek]] at A2
          generalize tm st fi num den (k : Int) = tk at AT A2
          replace ek := Lib.hid ek
          replace hj := Lib.hid hj
          go_upto_region 19 with (first | ((with_reducible refine Mid.ldr 32 (.tmp 6) p6 32 #[.string ⟨s0.toArray⟩, .string ⟨s1.toArray⟩, .string ⟨s2.toArray⟩, .string ⟨s3.toArray⟩, .int .i64 st, .int .i64 fi, .int .i64 num, .int .i64 den, .int .i64 er, .int .i64 ru, .int .i64 se, .slice (some ⟨b, 0, none⟩) kk cc] (Rec.hb hw.out K17.out) ?_ ?_ ?_ ?_ ?_ ?_); (· rfl); (· rfl); (· first | rfl | simp [Act.eval]); (· exact ⟨_, rfl, rfl⟩); (· kernel_rfl)) | (go_at_call 14; with_reducible refine (AT.out _ hw.out).mono ?_; rintro e w18 ⟨rfl, hc⟩; (have Z18 := Lib.hid (Buf.then_ hw.out hc)); clear hc))
          have K18 := Rec.hb Z18.out K17.out
          have A18 := Rec.hb Z18.out A17.out
          go_upto_region 20 with (first | ((with_reducible refine Mid.ldr 32 (.tmp 8) p8 32 #[.string ⟨s0.toArray⟩, .string ⟨s1.toArray⟩, .string ⟨s2.toArray⟩, .string ⟨s3.toArray⟩, .int .i64 st, .int .i64 fi, .int .i64 num, .int .i64 den, .int .i64 er, .int .i64 ru, .int .i64 se, .slice (some ⟨ga, 0, none⟩) K ca] A18 ?_ ?_ ?_ ?_ ?_ ?_); (· rfl); (· rfl); (· first | rfl | simp [Act.eval]); (· exact ⟨_, rfl, rfl⟩); (· kernel_rfl)) | ((with_reducible refine Mid.str 32 (.tmp 21) (.tmp 140) w18.heap.size 32 #[.string ⟨#[]⟩, .string ⟨#[]⟩, .string ⟨#[]⟩, .string ⟨#[]⟩, .int .i64 0, .int .i64 0, .int .i64 0, .int .i64 0, .int .i64 0, .int .i64 0, .int .i64 0, .slice none 0 0] #[.string ⟨s0.toArray⟩, .string ⟨s1.toArray⟩, .string ⟨s2.toArray⟩, .string ⟨s3.toArray⟩, .int .i64 st, .int .i64 fi, .int .i64 num, .int .i64 den, .int .i64 er, .int .i64 ru, .int .i64 se, .slice (some ⟨ga, 0, none⟩) K ca] (heap_alloc_new w18 _) ?_ ?_ ?_ ?_ ?_ ?_ ?_ ?_); (· rfl); (· rfl); (· first | rfl | simp [Act.eval]); (· first | rfl | simp [Act.eval]); (· kernel_rfl); (· rfl); (· simp [Value.oneCell'])))
          obtain ⟨w19, hw19⟩ : ∃ w19, w19 = (w18.alloc (.cells #[.string ⟨#[]⟩, .string ⟨#[]⟩, .string ⟨#[]⟩, .string ⟨#[]⟩, .int .i64 0, .int .i64 0, .int .i64 0, .int .i64 0, .int .i64 0, .int .i64 0, .int .i64 0, .slice none 0 0] 32)).setRow w18.heap.size #[.string ⟨s0.toArray⟩, .string ⟨s1.toArray⟩, .string ⟨s2.toArray⟩, .string ⟨s3.toArray⟩, .int .i64 st, .int .i64 fi, .int .i64 num, .int .i64 den, .int .i64 er, .int .i64 ru, .int .i64 se, .slice (some ⟨ga, 0, none⟩) K ca] := ⟨_, rfl⟩
          have N19 : Below w18.heap.size w18 w19 := by rw [hw19]; exact Mid.below_row (Rec.new_block _) _ _ (Nat.le_refl _)
          have Q19 := Lib.hid (show w19.heap[w18.heap.size]? = some (.cells #[.string ⟨s0.toArray⟩, .string ⟨s1.toArray⟩, .string ⟨s2.toArray⟩, .string ⟨s3.toArray⟩, .int .i64 st, .int .i64 fi, .int .i64 num, .int .i64 den, .int .i64 er, .int .i64 ru, .int .i64 se, .slice (some ⟨ga, 0, none⟩) K ca] 32 (0, 0)) by rw [hw19]; exact setRow_heap _ _ _ _ _ _ (heap_alloc_new w18 _))
          have Z19 := Lib.hid (Buf.then_ Z18.out N19)
          rw [← hw19]
          obtain ⟨pq, hpq⟩ : ∃ p, p = w18.heap.size := ⟨_, rfl⟩
          have pq17 : w17.heap.size ≤ pq := by rw [hpq]; exact Z18.out.size
          rw [← hpq] at Q19 ⊢
          clear hw19 N19 hpq K18 A18 Z18
          obtain ⟨w29, hw29⟩ : ∃ w29, w29 = w19.setRow pq #[.string ⟨s0.toArray⟩, .string ⟨s1.toArray⟩, .string ⟨s2.toArray⟩, .string ⟨s3.toArray⟩, .int .i64 st, .int .i64 fk, .int .i64 num, .int .i64 den, .int .i64 er, .int .i64 ru, .int .i64 se, .slice (some ⟨gb, 0, none⟩) ((kk - K)) cb] := ⟨_, rfl⟩
          have Q29 := Lib.hid (show w29.heap[pq]? = some (.cells #[.string ⟨s0.toArray⟩, .string ⟨s1.toArray⟩, .string ⟨s2.toArray⟩, .string ⟨s3.toArray⟩, .int .i64 st, .int .i64 fk, .int .i64 num, .int .i64 den, .int .i64 er, .int .i64 ru, .int .i64 se, .slice (some ⟨gb, 0, none⟩) ((kk - K)) cb] 32 (0, 0)) by rw [hw29]; exact setRow_heap _ _ _ _ _ _ Q19.out)
          have Z29 := Lib.hid (show Below w17.heap.size w17 w29 by rw [hw29]; exact Mid.below_row Z19.out _ _ pq17)
          have B19 := Rec.hb Z19.out B17.out
          go_upto_region 22 with (first | ((with_reducible refine Mid.ldr 32 (.tmp 10) p10 32 #[.string ⟨s0.toArray⟩, .string ⟨s1.toArray⟩, .string ⟨s2.toArray⟩, .string ⟨s3.toArray⟩, .int .i64 st, .int .i64 fk, .int .i64 num, .int .i64 den, .int .i64 er, .int .i64 ru, .int .i64 se, .slice (some ⟨gb, 0, none⟩) ((kk - K)) cb] B19 ?_ ?_ ?_ ?_ ?_ ?_); (· rfl); (· rfl); (· first | rfl | simp [Act.eval]); (· exact ⟨_, rfl, rfl⟩); (· kernel_rfl)) | ((with_reducible refine Mid.str 32 (.tmp 21) (.tmp 145) pq 32 #[.string ⟨s0.toArray⟩, .string ⟨s1.toArray⟩, .string ⟨s2.toArray⟩, .string ⟨s3.toArray⟩, .int .i64 st, .int .i64 fi, .int .i64 num, .int .i64 den, .int .i64 er, .int .i64 ru, .int .i64 se, .slice (some ⟨ga, 0, none⟩) K ca] #[.string ⟨s0.toArray⟩, .string ⟨s1.toArray⟩, .string ⟨s2.toArray⟩, .string ⟨s3.toArray⟩, .int .i64 st, .int .i64 fk, .int .i64 num, .int .i64 den, .int .i64 er, .int .i64 ru, .int .i64 se, .slice (some ⟨gb, 0, none⟩) ((kk - K)) cb] Q19.out ?_ ?_ ?_ ?_ ?_ ?_ ?_ ?_); (· rfl); (· rfl); (· first | rfl | simp [Act.eval]); (· first | rfl | simp [Act.eval]); (· kernel_rfl); (· rfl); (· simp [Value.oneCell'])))
          rw [← hw29]
          clear hw29 Q19 Z19 B19 pq17
          go_upto_region 23 with (first | ((with_reducible refine Mid.ldr 32 (.tmp 21) pq 32 #[.string ⟨s0.toArray⟩, .string ⟨s1.toArray⟩, .string ⟨s2.toArray⟩, .string ⟨s3.toArray⟩, .int .i64 st, .int .i64 fk, .int .i64 num, .int .i64 den, .int .i64 er, .int .i64 ru, .int .i64 se, .slice (some ⟨gb, 0, none⟩) ((kk - K)) cb] Q29.out ?_ ?_ ?_ ?_ ?_ ?_); (· rfl); (· rfl); (· first | rfl | simp [Act.eval]); (· exact ⟨_, rfl, rfl⟩); (· kernel_rfl)) | (go_at_call 14; with_reducible refine (A2.out _ Z29.out).mono ?_; rintro e w20 ⟨rfl, hc⟩; (have Z20 := Lib.hid (Buf.then_ Z29.out hc)); (have Q20 := Lib.hid (Rec.hb hc Q29.out)); clear hc))
          clear Z29 Q29 AT A2
          have i1 := (World.cell?_of_block (a := ⟨b, k, none⟩) (Z20.out.block b X17.out.sr.1)).trans c1.out
          have i2 := (World.cell?_of_block (a := ⟨gb, j, none⟩) (Z20.out.block gb XB17.out.sr.1)).trans c2.out
          obtain ⟨x0, x1, x2, x3, x4, x5, x6, x7, x8, x9, x10, x11⟩ := c12 Q20.out
          obtain ⟨y0, y1, y2, y3, y4, y5, y6, y7, y8, y9, y10, y11⟩ := c12 (Rec.hb Z20.out K17.out)
          have edd : (dv != dv) = false := by simp
          have ett : (tk != tk) = false := by simp
          go_quiet (fail)
          go_wp2_with fail
          go_roundw
          case rel => exact ⟨k + 1, by omega, by go_num, Lib.hid (Buf.below_drewN Z20.out _)⟩
          case measure => simp [intOf]; omega
      · have ekk : kk = k := by omega
        subst ekk
        have K30 := Rec.hb hw.out K17.out
        have B30 := Rec.hb hw.out B17.out
        have L30 := L17.out.below hw.out
        have X30 := X17.out.keep hw.out
        have XB30 := XB17.out.keep hw.out
        obtain ⟨y0, y1, y2, y3, y4, y5, y6, y7, y8, y9, y10, y11⟩ := c12 B30
        replace K30 := Lib.hid K30
        replace B30 := Lib.hid B30
        replace L30 := Lib.hid L30
        replace X30 := Lib.hid X30
        replace XB30 := Lib.hid XB30
        clear hw K17 A17 B17 X17 XA17 XB17 L17 RLT
        have NX := Lib.hid (Dice.next_any ((kk - K : Nat) : Int) L30.out.di (by omega) (by omega))
        go_upto_region 27 with fail
        with_reducible refine NX.out.mono ?_
        rintro e w31 ⟨⟨iv, rfl, iv0, iv1⟩, hl⟩
        have hl1 := Lib.hid hl
        clear hl
        go_upto_region 27 with fail
        clear y0 y1 y2 y3 y4 y5 y6 y7 y8 y9 y10 y11 NX
        obtain ⟨f, rfl⟩ : ∃ f : Nat, iv = (f : Int) := ⟨iv.toNat, by omega⟩
        have fn : f < kk - K := by omega
        have z6 := (Array.getElem?_eq_some_iff.1 K30.out).1
        have z10 := (Array.getElem?_eq_some_iff.1 B30.out).1
        have K31 := Lib.hid ((hl1.out.far.block p6 z6 (by simp; omega)).trans K30.out)
        have B31 := Lib.hid ((hl1.out.far.block p10 z10 (by simp; omega)).trans B30.out)
        have X31 := Lib.hid (X30.out.kept (hl1.out.far.block b X30.out.sr.1 (by simp; omega)) hl1.out.far.size)
        have XB31 := Lib.hid (XB30.out.kept (hl1.out.far.block gb XB30.out.sr.1 (by simp; omega)) hl1.out.far.size)
        have Y31 := Lib.hid (L30.out.trans hl1.out).di.bel
        clear K30 B30 X30 XB30 L30 hl1 z6 z10
        obtain ⟨ff, hff⟩ : ∃ ff, ff = fk + (f : Int) := ⟨_, rfl⟩
        obtain ⟨Kf, hKf⟩ : ∃ Kf, Kf = K + f := ⟨_, rfl⟩
        obtain ⟨nn, hnn⟩ : ∃ nn, nn = kk - K - f := ⟨_, rfl⟩
        have SC := Lib.hid (Rec.sub_any PK.out XB31.out f (kk - K) fn (Nat.le_refl _))
        have SZ := Lib.hid (fun (w' : World) (h' : Below w31.heap.size w31 w') => Rec.sub_any P.out (X31.out.keep h') Kf kk (by omega) (Nat.le_refl _))
        rw [← hff, ← hnn, Rec.cutl_cutl _ _ _ _ (by omega), ← hKf] at SC
        rw [show fi + (Kf : Int) = ff by rw [hff, hfk.out]; omega, show kk - Kf = nn by omega] at SZ
        have lnn : Hid (nn = (Rec.cutl xs Kf kk).length) := Lib.hid (by rw [Rec.cutl_len (by omega) (by have := X31.out.hn; omega)]; omega)
        have n10 : nn ≤ 1000 := by omega
        have eKf : (K : Int) + (f : Int) = (Kf : Int) := by omega
        have wKf : IntKind.i64.wrap ((K : Int) + (f : Int)) = (Kf : Int) := by rw [eKf]; exact IntWalk.i64_in _ (by omega)
        replace hff := Lib.hid hff
        replace hKf := Lib.hid hKf
        replace hnn := Lib.hid hnn
        obtain ⟨y0, y1, y2, y3, y4, y5, y6, y7, y8, y9, y10, y11⟩ := c12 B31.out
        go_upto_region 28 with (first | ((with_reducible refine Mid.ldr 32 (.tmp 10) p10 32 #[.string ⟨s0.toArray⟩, .string ⟨s1.toArray⟩, .string ⟨s2.toArray⟩, .string ⟨s3.toArray⟩, .int .i64 st, .int .i64 fk, .int .i64 num, .int .i64 den, .int .i64 er, .int .i64 ru, .int .i64 se, .slice (some ⟨gb, 0, none⟩) ((kk - K)) cb] B31.out ?_ ?_ ?_ ?_ ?_ ?_); (· rfl); (· rfl); (· first | rfl | simp [Act.eval]); (· exact ⟨_, rfl, rfl⟩); (· kernel_rfl)) | (go_at_call 11; with_reducible refine SC.out.mono ?_; rintro e w32 ⟨⟨gc, c3, rfl, XC, hgc⟩, hc⟩; (have Z32 := Lib.hid hc); clear hc) | ((with_reducible refine Mid.str 32 (.tmp 26) (.tmp 192) w32.heap.size 32 #[.string ⟨#[]⟩, .string ⟨#[]⟩, .string ⟨#[]⟩, .string ⟨#[]⟩, .int .i64 0, .int .i64 0, .int .i64 0, .int .i64 0, .int .i64 0, .int .i64 0, .int .i64 0, .slice none 0 0] #[.string ⟨s0.toArray⟩, .string ⟨s1.toArray⟩, .string ⟨s2.toArray⟩, .string ⟨s3.toArray⟩, .int .i64 st, .int .i64 ff, .int .i64 num, .int .i64 den, .int .i64 er, .int .i64 ru, .int .i64 se, .slice (some ⟨gc, 0, none⟩) nn c3] (heap_alloc_new w32 _) ?_ ?_ ?_ ?_ ?_ ?_ ?_ ?_); (· rfl); (· rfl); (· first | rfl | simp [Act.eval]); (· first | rfl | simp [Act.eval]); (· kernel_rfl); (· rfl); (· simp [Value.oneCell'])))
        obtain ⟨w33, hw33⟩ : ∃ w33, w33 = (w32.alloc (.cells #[.string ⟨#[]⟩, .string ⟨#[]⟩, .string ⟨#[]⟩, .string ⟨#[]⟩, .int .i64 0, .int .i64 0, .int .i64 0, .int .i64 0, .int .i64 0, .int .i64 0, .int .i64 0, .slice none 0 0] 32)).setRow w32.heap.size #[.string ⟨s0.toArray⟩, .string ⟨s1.toArray⟩, .string ⟨s2.toArray⟩, .string ⟨s3.toArray⟩, .int .i64 st, .int .i64 ff, .int .i64 num, .int .i64 den, .int .i64 er, .int .i64 ru, .int .i64 se, .slice (some ⟨gc, 0, none⟩) nn c3] := ⟨_, rfl⟩
        have N33 : Below w32.heap.size w32 w33 := by rw [hw33]; exact Mid.below_row (Rec.new_block _) _ _ (Nat.le_refl _)
        have C33 := Lib.hid (show w33.heap[w32.heap.size]? = some (.cells #[.string ⟨s0.toArray⟩, .string ⟨s1.toArray⟩, .string ⟨s2.toArray⟩, .string ⟨s3.toArray⟩, .int .i64 st, .int .i64 ff, .int .i64 num, .int .i64 den, .int .i64 er, .int .i64 ru, .int .i64 se, .slice (some ⟨gc, 0, none⟩) nn c3] 32 (0, 0)) by rw [hw33]; exact setRow_heap _ _ _ _ _ _ (heap_alloc_new w32 _))
        have XC33 := Lib.hid (XC.keep N33)
        have Z33 := Lib.hid (Buf.then_ Z32.out N33)
        rw [← hw33]
        obtain ⟨pd, hpd⟩ : ∃ p, p = w32.heap.size := ⟨_, rfl⟩
        rw [← hpd] at C33 ⊢
        clear hw33 N33 hpd XC hgc Z32 SC y0 y1 y2 y3 y4 y5 y6 y7 y8 y9 y10 y11
        have K33 := Rec.hb Z33.out K31.out
        obtain ⟨x0, x1, x2, x3, x4, x5, x6, x7, x8, x9, x10, x11⟩ := c12 K33
        go_upto_region 29 with (first | ((with_reducible refine Mid.ldr 32 (.tmp 6) p6 32 #[.string ⟨s0.toArray⟩, .string ⟨s1.toArray⟩, .string ⟨s2.toArray⟩, .string ⟨s3.toArray⟩, .int .i64 st, .int .i64 fi, .int .i64 num, .int .i64 den, .int .i64 er, .int .i64 ru, .int .i64 se, .slice (some ⟨b, 0, none⟩) kk cc] K33 ?_ ?_ ?_ ?_ ?_ ?_); (· rfl); (· rfl); (· first | rfl | simp [Act.eval]); (· exact ⟨_, rfl, rfl⟩); (· kernel_rfl)) | (go_at_call 11; with_reducible refine (SZ.out _ Z33.out).mono ?_; rintro e w34 ⟨⟨gz, c4, rfl, XZ, hgz⟩, hc⟩; (have Z34 := Lib.hid (Buf.then_ Z33.out hc)); (have C34 := Lib.hid (Rec.hb hc C33.out)); (have XC34 := Lib.hid (XC33.out.keep hc)); clear hc) | ((with_reducible refine Mid.str 32 (.tmp 28) (.tmp 203) w34.heap.size 32 #[.string ⟨#[]⟩, .string ⟨#[]⟩, .string ⟨#[]⟩, .string ⟨#[]⟩, .int .i64 0, .int .i64 0, .int .i64 0, .int .i64 0, .int .i64 0, .int .i64 0, .int .i64 0, .slice none 0 0] #[.string ⟨s0.toArray⟩, .string ⟨s1.toArray⟩, .string ⟨s2.toArray⟩, .string ⟨s3.toArray⟩, .int .i64 st, .int .i64 ff, .int .i64 num, .int .i64 den, .int .i64 er, .int .i64 ru, .int .i64 se, .slice (some ⟨gz, 0, none⟩) nn c4] (heap_alloc_new w34 _) ?_ ?_ ?_ ?_ ?_ ?_ ?_ ?_); (· rfl); (· rfl); (· first | rfl | simp [Act.eval]); (· first | rfl | simp [Act.eval]); (· kernel_rfl); (· rfl); (· simp [Value.oneCell'])))
        obtain ⟨w35, hw35⟩ : ∃ w35, w35 = (w34.alloc (.cells #[.string ⟨#[]⟩, .string ⟨#[]⟩, .string ⟨#[]⟩, .string ⟨#[]⟩, .int .i64 0, .int .i64 0, .int .i64 0, .int .i64 0, .int .i64 0, .int .i64 0, .int .i64 0, .slice none 0 0] 32)).setRow w34.heap.size #[.string ⟨s0.toArray⟩, .string ⟨s1.toArray⟩, .string ⟨s2.toArray⟩, .string ⟨s3.toArray⟩, .int .i64 st, .int .i64 ff, .int .i64 num, .int .i64 den, .int .i64 er, .int .i64 ru, .int .i64 se, .slice (some ⟨gz, 0, none⟩) nn c4] := ⟨_, rfl⟩
        have N35 : Below w34.heap.size w34 w35 := by rw [hw35]; exact Mid.below_row (Rec.new_block _) _ _ (Nat.le_refl _)
        have D35 := Lib.hid (show w35.heap[w34.heap.size]? = some (.cells #[.string ⟨s0.toArray⟩, .string ⟨s1.toArray⟩, .string ⟨s2.toArray⟩, .string ⟨s3.toArray⟩, .int .i64 st, .int .i64 ff, .int .i64 num, .int .i64 den, .int .i64 er, .int .i64 ru, .int .i64 se, .slice (some ⟨gz, 0, none⟩) nn c4] 32 (0, 0)) by rw [hw35]; exact setRow_heap _ _ _ _ _ _ (heap_alloc_new w34 _))
        have C35 := Lib.hid (Rec.hb N35 C34.out)
        have Z35 := Lib.hid (Buf.then_ Z34.out N35)
        have SM := Lib.hid (Rec.same_any (s0 := s0) (s1 := s1) (s2 := s2) (s3 := s3) (st := st) (fi := ff) (num := num) (den := den) (er := er) (ru := ru) (se := se) (c := c3) (c' := c4) (XC34.out.keep N35).sr (XZ.keep N35).sr lnn.out n10)
        rw [← hw35]
        obtain ⟨pe, hpe⟩ : ∃ p, p = w34.heap.size := ⟨_, rfl⟩
        rw [← hpe] at D35 ⊢
        clear hw35 N35 hpe XZ hgz Z34 Z33 C34 C33 XC34 XC33 SZ K33 x0 x1 x2 x3 x4 x5 x6 x7 x8 x9 x10 x11
        obtain ⟨x0, x1, x2, x3, x4, x5, x6, x7, x8, x9, x10, x11⟩ := c12 C35.out
        obtain ⟨y0, y1, y2, y3, y4, y5, y6, y7, y8, y9, y10, y11⟩ := c12 D35.out
        go_wp2_with (first | (go_at_call 16; with_reducible refine SM.out.mono ?_; rintro e w36 ⟨rfl, hc⟩; (have Z36 := Lib.hid (Buf.then_ Z35.out hc)); clear hc) | (go_at_call 7; refine (Rec.sane_any _).mono ?_; rintro e w37 ⟨rfl, hc⟩; (have Z37 := Lib.hid (Buf.then_ Z36.out hc)); clear hc))
        go_ret
        exact ⟨rfl, Buf.then_ Y31.out Z37.out⟩
  · have hd : decide ((len0 : Int) ≤ 500) = false := by simp; omega
    go_enter Try.func3, Try.ntmps3
    go_wp2_with (first | (go_at_call 6; refine (light_any _ _ _ _).mono ?_; rintro e w1 ⟨rfl, hw⟩; replace hw := hw.symm; subst hw; rw [hd]) | (go_at_call 7; refine (Rec.sane_any _).mono ?_; rintro e w9 ⟨rfl, hc⟩))
    go_ret
    exact ⟨rfl, hc⟩
end Laws
end Go.Proofs.Ytcdncaehihfhnaa
