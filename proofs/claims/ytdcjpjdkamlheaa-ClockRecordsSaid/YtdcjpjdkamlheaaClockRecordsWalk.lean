/- The walk of ClockRecords. -/
import Derived.Test.YtdcjpjdkamlheaaRecE
import Derived.Test.YtdcjpjdkamlheaaClockO
import Derived.Deep.RegionHeld3
import Derived.RegionTactic
import Derived.ChangeAlike
import Derived.Deep.DeepCutAuto
set_option linter.unusedVariables false
set_option linter.unusedSimpArgs false
namespace Go.Proofs.Ytdcjpjdkamlheaa
open Go.RowKit Wi Dice
namespace Laws
set_option maxHeartbeats 8000000 in
set_option maxRecDepth 100000 in
theorem clockRecords_walk (a0 : Option Addr) (len0 cap0 : Nat) (z0 : List Int) (a1 : Int) (w : World) (w0 : Buf.IsRow .i64 w a0 len0 cap0 z0) (w1 : (Lit.int .u16 a1).wf = true) :
    Calls Try.prog 3 #[.slice a0 len0 cap0, .int .u16 a1] w fun e w' => e = .returned (.bool true) ∧ Below w.heap.size w w' := by
  obtain ⟨b0, b1⟩ := Ma.wf_u16 w1
  clear w1
  by_cases hs : len0 ≤ 500
  · have hd : decide ((len0 : Int) ≤ 500) = true := by simp; omega
    go_enter Try.func3, Try.ntmps3
    go_wp2_with (first | (go_at_call 7; refine (light_any _ _ _ _).mono ?_; rintro e w1 ⟨rfl, hw⟩; replace hw := hw.symm; subst hw; rw [hd]) | (go_at_call 9; refine (roll_any a0 len0 cap0 z0 _ w0 hs).mono ?_; rintro e w2 ⟨rfl, hdi⟩))
    refine (Clock.anchors_any false hdi).mono ?_
    rintro e w3 ⟨⟨v, x, P, tag, at_, rfl, x0, x1, G, ho⟩, hl⟩
    have ok := G.ok
    have tr := Lib.hid (G.trs rfl)
    have n5 := G.n5
    have hg2 : w.heap.size < w2.heap.size := hdi.lt
    replace ho := Lib.hid ho
    have L0 := Lib.hid hl
    clear hl G
    go_wp2_with fail
    refine (Rec.source_any L0.out.di).mono ?_
    rintro e w4 ⟨⟨s0, s1, s2, s3, rfl, q0, q1, q2, q3⟩, hl⟩
    replace ho := Lib.hid (Clock.own_grown ho.out hl.far hg2)
    replace L0 := Lib.hid (L0.out.trans hl)
    clear hl
    go_wp2_with fail
    refine (Rec.record_any ⟨s0.toArray⟩ ⟨s1.toArray⟩ ⟨s2.toArray⟩ ⟨s3.toArray⟩ 5 (by decide) (by decide) L0.out.di).mono ?_
    rintro e w5 ⟨⟨st, fi, num, den, er, ru, se, ad, kk, cc, xs, rfl, HN, ⟨va, vb, gg, hdv, ha, hb', hnum, hden⟩, hown, hkx, k1, k5, HX⟩, hl⟩
    replace ho := Lib.hid (Clock.own_grown ho.out hl.far hg2)
    replace L0 := Lib.hid (L0.out.trans hl)
    have rv : Rate.RV num den := by rw [← hnum, ← hden]; exact hdv.rv
    have er0 : 0 ≤ er ∧ er ≤ 500 := by have := HN.er_; simp only [List.mem_cons, List.not_mem_nil, or_false] at this; omega
    obtain ⟨er0, er9⟩ := er0
    obtain ⟨b, c, hsl, sr, hkc, _, _⟩ := Rec.sr_own (xs := xs) hown hkx k1
    obtain ⟨rfl, rfl⟩ : ad = some ⟨b, 0, none⟩ ∧ cc = c := by injection hsl with p q r; exact ⟨p, r⟩
    replace sr := Lib.hid sr
    replace rv := Lib.hid rv
    replace hkx := Lib.hid hkx
    have BW := Lib.hid L0.out.di.bel
    clear hl hsl hown hdv ha hb' hnum hden HN HX L0 q0 q1 q2 q3 hdi
    have sb : b < w5.heap.size := sr.out.1
    have sg : ∀ q, v.ownBlock = some q → q < w5.heap.size := fun q hq => (ho.out.lt q hq).2
    replace sg := Lib.hid sg
    obtain ⟨w6, hw9⟩ : ∃ w6, w6 = w5.alloc (.cells #[.string ⟨s0.toArray⟩, .string ⟨s1.toArray⟩, .string ⟨s2.toArray⟩, .string ⟨s3.toArray⟩, .int .i64 st, .int .i64 fi, .int .i64 num, .int .i64 den, .int .i64 er, .int .i64 ru, .int .i64 se, .slice (some ⟨b, 0, none⟩) kk cc] 36) := ⟨_, rfl⟩
    have Y9 : Hid (Below w5.heap.size w5 w6) := Lib.hid (by rw [hw9]; exact Rec.new_block _)
    have K8 := Lib.hid (show w6.heap[w5.heap.size]? = some (.cells #[.string ⟨s0.toArray⟩, .string ⟨s1.toArray⟩, .string ⟨s2.toArray⟩, .string ⟨s3.toArray⟩, .int .i64 st, .int .i64 fi, .int .i64 num, .int .i64 den, .int .i64 er, .int .i64 ru, .int .i64 se, .slice (some ⟨b, 0, none⟩) kk cc] 36 (0, 0)) by rw [hw9]; exact heap_alloc_new w5 _)
    have k8B := (Array.getElem?_eq_some_iff.1 K8.out).1
    go_upto_region 6 with fail
    rw [← hw9]
    clear hw9
    obtain ⟨b8, hb8⟩ : ∃ b8, b8 = w5.heap.size := ⟨_, rfl⟩
    rw [← hb8] at K8 k8B ⊢
    have hb8l : w5.heap.size ≤ b8 := by omega
    have hb8g : b8 ≤ w5.heap.size := by omega
    clear hb8
    have sz6 : w.heap.size ≤ w5.heap.size := BW.out.size
    replace ho := Lib.hid (Clock.own_below ho.out Y9.out)
    replace sr := Lib.hid (sr.out.below Y9.out)
    replace BW := Lib.hid (Buf.then_ BW.out Y9.out)
    clear Y9
    have cv : IntKind.i64.wrap a1 = a1 := IntWalk.i64_in _ (by omega)
    obtain ⟨x_0, x_1, x_2, x_3, x_4, x_5, x_6, x_7, x_8, x_9, x_10, x_11⟩ := Rec.c12 K8.out
    obtain ⟨u_0, u_1, u_2, u_3, u_4, u_5, u_6, u_7, u_8, u_9, u_10, u_11⟩ := Rec.f12 K8.out
    have G1 := Lib.hid ((heap_setCell_same w6 b8 4 _ _ (.int .i64 a1) K8.out).trans (show _ = some (.cells #[.string ⟨s0.toArray⟩, .string ⟨s1.toArray⟩, .string ⟨s2.toArray⟩, .string ⟨s3.toArray⟩, .int .i64 a1, .int .i64 fi, .int .i64 num, .int .i64 den, .int .i64 er, .int .i64 ru, .int .i64 se, .slice (some ⟨b, 0, none⟩) kk cc] 36 (0, 0)) from rfl))
    have G2 := Lib.hid ((heap_setCell_same _ b8 5 _ _ (.int .i64 0) G1.out).trans (show _ = some (.cells #[.string ⟨s0.toArray⟩, .string ⟨s1.toArray⟩, .string ⟨s2.toArray⟩, .string ⟨s3.toArray⟩, .int .i64 a1, .int .i64 0, .int .i64 num, .int .i64 den, .int .i64 er, .int .i64 ru, .int .i64 se, .slice (some ⟨b, 0, none⟩) kk cc] 36 (0, 0)) from rfl))
    have FAR : Hid (∀ k, k ≠ b8 → ((w6.setCell ⟨b8, 4, none⟩ (.int .i64 a1)).setCell ⟨b8, 5, none⟩ (.int .i64 0)).heap[k]? = w6.heap[k]?) := Lib.hid fun k hk => (Below.heap_setCell (w6.setCell ⟨b8, 4, none⟩ (.int .i64 a1)) ⟨b8, 5, none⟩ (.int .i64 0) k hk).trans (Below.heap_setCell w6 ⟨b8, 4, none⟩ (.int .i64 a1) k hk)
    have SZ : Hid (((w6.setCell ⟨b8, 4, none⟩ (.int .i64 a1)).setCell ⟨b8, 5, none⟩ (.int .i64 0)).heap.size = w6.heap.size) := Lib.hid (by simp [World.setCell])
    replace BW := Lib.hid ((BW.out.setCell (p := ⟨b8, 4, none⟩) (by show w.heap.size ≤ b8; omega) (.int .i64 a1)).setCell (p := ⟨b8, 5, none⟩) (by show w.heap.size ≤ b8; omega) (.int .i64 0))
    go_upto_region 7 with fail
    generalize (w6.setCell ⟨b8, 4, none⟩ (.int .i64 a1)).setCell ⟨b8, 5, none⟩ (.int .i64 0) = w7 at *
    replace sr := Lib.hid (sr.out.kept (FAR.out _ (by omega)) (by rw [SZ.out]; exact Nat.le_refl _))
    replace ho := Lib.hid (Rec.own_kept ho.out fun k hk => FAR.out k (by have := sg.out k hk; omega))
    clear K8 G1 FAR SZ cv x_0 x_1 x_2 x_3 x_4 x_5 x_6 x_7 x_8 x_9 x_10 x_11 u_0 u_1 u_2 u_3 u_4 u_5 u_6 u_7 u_8 u_9 u_10 u_11 sg
    by_cases hn : P.length = 0
    · have ho' := ho.out
      rw [hn] at ho'
      obtain ⟨a', c', rfl⟩ := Clock.own_form0 ho'
      have AP := Lib.hid (Rec.apply_none (w := w7) (b := b) (n := kk) (c := cc) (xs := xs) (.slice a' 0 c') x ⟨s0.toArray⟩ ⟨s1.toArray⟩ ⟨s2.toArray⟩ ⟨s3.toArray⟩ a1 num den er ru se rv.out (by omega) (by omega) (fun w' _ => Clock.valid_nil a' c' x x0 (by omega) w') (fun w' _ => Clock.correct_nil a' c' x a1 x0 (by omega) (by omega) (by omega) w'))
      clear ho' ho ok tr hn
      obtain ⟨x_0, x_1, x_2, x_3, x_4, x_5, x_6, x_7, x_8, x_9, x_10, x_11⟩ := Rec.c12 G2.out
      go_wp2_with fail
      with_reducible refine (AP.out).mono ?_
      rintro e w8 ⟨rfl, hc⟩
      replace G2 := Lib.hid (Rec.hb hc G2.out)
      replace BW := Lib.hid (Buf.then_ BW.out hc)
      clear hc AP x_0 x_1 x_2 x_3 x_4 x_5 x_6 x_7 x_8 x_9 x_10 x_11
      obtain ⟨w9, hw9⟩ : ∃ w9, w9 = w8.alloc (.cells #[.string ⟨#[]⟩, .string ⟨#[]⟩, .string ⟨#[]⟩, .string ⟨#[]⟩, .int .i64 0, .int .i64 0, .int .i64 0, .int .i64 0, .int .i64 0, .int .i64 0, .int .i64 0, .slice none 0 0] 36) := ⟨_, rfl⟩
      have Y9 : Hid (Below w8.heap.size w8 w9) := Lib.hid (by rw [hw9]; exact Rec.new_block _)
      have K9 := Lib.hid (show w9.heap[w8.heap.size]? = some (.cells #[.string ⟨#[]⟩, .string ⟨#[]⟩, .string ⟨#[]⟩, .string ⟨#[]⟩, .int .i64 0, .int .i64 0, .int .i64 0, .int .i64 0, .int .i64 0, .int .i64 0, .int .i64 0, .slice none 0 0] 36 (0, 0)) by rw [hw9]; exact heap_alloc_new w8 _)
      have k9B := (Array.getElem?_eq_some_iff.1 K9.out).1
      go_upto_region 8 with fail
      rw [← hw9]
      clear hw9
      obtain ⟨b9, hb9⟩ : ∃ b9, b9 = w8.heap.size := ⟨_, rfl⟩
      rw [← hb9] at K9 k9B ⊢
      have hb9l : w8.heap.size ≤ b9 := by omega
      have hb9g : b9 ≤ w8.heap.size := by omega
      clear hb9
      replace G2 := Lib.hid (Rec.hb Y9.out G2.out)
      replace BW := Lib.hid (Buf.then_ BW.out Y9.out)
      clear Y9
      obtain ⟨x_0, x_1, x_2, x_3, x_4, x_5, x_6, x_7, x_8, x_9, x_10, x_11⟩ := Rec.c12 G2.out
      go_wp2_with fail
      refine (Clock.correct_nil a' c' x a1 x0 (by omega) (by omega) (by omega) _).mono ?_
      rintro e w10 ⟨rfl, hc⟩
      replace BW := Lib.hid (Buf.then_ BW.out hc)
      clear hc x_0 x_1 x_2 x_3 x_4 x_5 x_6 x_7 x_8 x_9 x_10 x_11
      go_wp2_with (go_at_call 8; refine (Clock.sane_any _).mono ?_; rintro e w99 ⟨rfl, hb99⟩)
      go_ret
      exact ⟨rfl, Buf.then_ BW.out hb99⟩
    · obtain ⟨g, gc, rfl, hgc, hm⟩ := Clock.own_form ho.out (by omega)
      have A := Lib.hid (Clock.as_of ho.out rfl)
      have CC := Lib.hid fun w' (a : Clock.As w' g P.length (Clock.tf P) (Clock.lf P) (Clock.hf P)) => Clock.correct_any ok x a1 x0 (by omega) (by omega) (by omega) g gc w' (by omega) hgc hm a
      have VV := Lib.hid fun w' (a : Clock.As w' g P.length (Clock.tf P) (Clock.lf P) (Clock.hf P)) => Clock.valid_any ok x x0 (by omega) g gc w' a
      obtain ⟨q1, q2⟩ := Clock.co_true x a1 ok tr.out x0 (by omega) (by omega) (by omega)
      obtain ⟨q3, q4, q5, q6⟩ := Clock.co_bd ok x a1 x0 (by omega) (by omega) (by omega) (by omega)
      generalize Clock.coL x (Clock.tf P) (Clock.lf P) (Clock.hf P) a1 P.length = lo at *
      generalize Clock.coH x (Clock.tf P) (Clock.lf P) (Clock.hf P) a1 P.length = hi at *
      obtain ⟨tt, htt⟩ : ∃ tt, tt = (lo + hi) / 2 := ⟨_, rfl⟩
      obtain ⟨off, hoff⟩ : ∃ off, off = hi - (lo + hi) / 2 := ⟨_, rfl⟩
      have C2 : Hid (∀ w', Clock.As w' g P.length (Clock.tf P) (Clock.lf P) (Clock.hf P) → Calls Try.prog 14 #[.slice (some ⟨g, 0, none⟩) P.length gc, .int .i64 x, .int .i64 a1] w' fun e w'' => e = .returned (.tuple #[.int .i64 tt, .int .i64 off, .int .i64 0]) ∧ Below w'.heap.size w' w'') := Lib.hid fun w' a => (CC.out w' a).mono fun e w'' ⟨he, hbb⟩ => ⟨by
        rcases he with ⟨_, h⟩ | ⟨h, _⟩
        · rw [h, htt, hoff]
        · omega, hbb⟩
      have o0 : 0 ≤ off := by omega
      have o9 : off ≤ 600000000001 := by omega
      have t0 : 0 ≤ tt := by omega
      have t9 : tt ≤ 1200000000000 := by omega
      have AP := Rec.apply_ok (w := w7) (b := b) (n := kk) (c := cc) (xs := xs) (.slice (some ⟨g, 0, none⟩) P.length gc) x ⟨s0.toArray⟩ ⟨s1.toArray⟩ ⟨s2.toArray⟩ ⟨s3.toArray⟩ a1 num den er ru se rv.out (by omega) (by omega) (fun w' h => VV.out w' (A.out.below h)) tt off t0 (by omega) o0 (by omega) er0 er9 (fun w' h => C2.out w' (A.out.below h)) sr.out hkx.out k1 (by omega)
      rw [show min (er + off) 1099511627776 = er + off by omega] at AP
      obtain ⟨ee, hee⟩ : ∃ ee, ee = er + off := ⟨_, rfl⟩
      rw [← hee] at AP
      replace AP := Lib.hid AP
      have ew : IntKind.i64.wrap (er + off) = ee := by rw [← hee]; exact IntWalk.i64_in _ (by omega)
      replace hee := Lib.hid hee
      have P5 : (P.length : Int) ≤ 5 := by omega
      generalize hPl : P.length = pl at *
      replace hPl := Lib.hid hPl
      replace htt := Lib.hid htt
      replace hoff := Lib.hid hoff
      clear ho ok tr CC VV q1 q2 q3 q4 q5 q6 hn hm
      obtain ⟨x_0, x_1, x_2, x_3, x_4, x_5, x_6, x_7, x_8, x_9, x_10, x_11⟩ := Rec.c12 G2.out
      go_wp2_with fail
      with_reducible refine (AP.out).mono ?_
      rintro e w8 ⟨⟨g2, c2, rfl, sr2, hc2⟩, hc⟩
      have SB3 : g2 < w8.heap.size := sr2.1
      replace sr2 := Lib.hid sr2
      replace G2 := Lib.hid (Rec.hb hc G2.out)
      replace BW := Lib.hid (Buf.then_ BW.out hc)
      replace sr := Lib.hid (sr.out.below hc)
      replace A := Lib.hid (A.out.below hc)
      clear hc AP x_0 x_1 x_2 x_3 x_4 x_5 x_6 x_7 x_8 x_9 x_10 x_11
      obtain ⟨w9, hw9⟩ : ∃ w9, w9 = w8.alloc (.cells #[.string ⟨s0.toArray⟩, .string ⟨s1.toArray⟩, .string ⟨s2.toArray⟩, .string ⟨s3.toArray⟩, .int .i64 tt, .int .i64 0, .int .i64 num, .int .i64 den, .int .i64 ee, .int .i64 ru, .int .i64 se, .slice (some ⟨g2, 0, none⟩) kk c2] 36) := ⟨_, rfl⟩
      have Y9 : Hid (Below w8.heap.size w8 w9) := Lib.hid (by rw [hw9]; exact Rec.new_block _)
      have K9 := Lib.hid (show w9.heap[w8.heap.size]? = some (.cells #[.string ⟨s0.toArray⟩, .string ⟨s1.toArray⟩, .string ⟨s2.toArray⟩, .string ⟨s3.toArray⟩, .int .i64 tt, .int .i64 0, .int .i64 num, .int .i64 den, .int .i64 ee, .int .i64 ru, .int .i64 se, .slice (some ⟨g2, 0, none⟩) kk c2] 36 (0, 0)) by rw [hw9]; exact heap_alloc_new w8 _)
      have k9B := (Array.getElem?_eq_some_iff.1 K9.out).1
      go_upto_region 8 with fail
      rw [← hw9]
      clear hw9
      obtain ⟨b9, hb9⟩ : ∃ b9, b9 = w8.heap.size := ⟨_, rfl⟩
      rw [← hb9] at K9 k9B ⊢
      have hb9l : w8.heap.size ≤ b9 := by omega
      have hb9g : b9 ≤ w8.heap.size := by omega
      clear hb9
      replace G2 := Lib.hid (Rec.hb Y9.out G2.out)
      replace BW := Lib.hid (Buf.then_ BW.out Y9.out)
      replace sr := Lib.hid (sr.out.below Y9.out)
      replace sr2 := Lib.hid (sr2.out.below Y9.out)
      replace A := Lib.hid (A.out.below Y9.out)
      clear Y9
      obtain ⟨x_0, x_1, x_2, x_3, x_4, x_5, x_6, x_7, x_8, x_9, x_10, x_11⟩ := Rec.c12 G2.out
      go_wp2_with fail
      with_reducible refine (C2.out _ A.out).mono ?_
      rintro e w10 ⟨rfl, hc⟩
      replace G2 := Lib.hid (Rec.hb hc G2.out)
      replace K9 := Lib.hid (Rec.hb hc K9.out)
      replace BW := Lib.hid (Buf.then_ BW.out hc)
      replace sr := Lib.hid (sr.out.below hc)
      replace sr2 := Lib.hid (sr2.out.below hc)
      clear hc x_0 x_1 x_2 x_3 x_4 x_5 x_6 x_7 x_8 x_9 x_10 x_11 C2 A
      have p8 := (Array.getElem?_eq_some_iff.1 G2.out).1
      have p9 := (Array.getElem?_eq_some_iff.1 K9.out).1
      have pb := sr.out.1
      have pg := sr2.out.1
      obtain ⟨x_0, x_1, x_2, x_3, x_4, x_5, x_6, x_7, x_8, x_9, x_10, x_11⟩ := Rec.c12 K9.out
      obtain ⟨w11, hw9⟩ : ∃ w11, w11 = w10.alloc (.cells #[.string ⟨s0.toArray⟩, .string ⟨s1.toArray⟩, .string ⟨s2.toArray⟩, .string ⟨s3.toArray⟩, .int .i64 tt, .int .i64 0, .int .i64 num, .int .i64 den, .int .i64 ee, .int .i64 ru, .int .i64 se, .slice (some ⟨g2, 0, none⟩) kk c2] 36) := ⟨_, rfl⟩
      have Y9 : Hid (Below w10.heap.size w10 w11) := Lib.hid (by rw [hw9]; exact Rec.new_block _)
      have K14 := Lib.hid (show w11.heap[w10.heap.size]? = some (.cells #[.string ⟨s0.toArray⟩, .string ⟨s1.toArray⟩, .string ⟨s2.toArray⟩, .string ⟨s3.toArray⟩, .int .i64 tt, .int .i64 0, .int .i64 num, .int .i64 den, .int .i64 ee, .int .i64 ru, .int .i64 se, .slice (some ⟨g2, 0, none⟩) kk c2] 36 (0, 0)) by rw [hw9]; exact heap_alloc_new w10 _)
      have k14B := (Array.getElem?_eq_some_iff.1 K14.out).1
      go_upto_region 12 with fail
      rw [← hw9]
      clear hw9
      obtain ⟨b14, hb14⟩ : ∃ b14, b14 = w10.heap.size := ⟨_, rfl⟩
      rw [← hb14] at K14 k14B ⊢
      have hb14l : w10.heap.size ≤ b14 := by omega
      have hb14g : b14 ≤ w10.heap.size := by omega
      clear hb14
      replace G2 := Lib.hid (Rec.hb Y9.out G2.out)
      replace K9 := Lib.hid (Rec.hb Y9.out K9.out)
      replace BW := Lib.hid (Buf.then_ BW.out Y9.out)
      replace sr := Lib.hid (sr.out.below Y9.out)
      replace sr2 := Lib.hid (sr2.out.below Y9.out)
      have s8 := (Array.getElem?_eq_some_iff.1 G2.out).1
      have s9 := (Array.getElem?_eq_some_iff.1 K9.out).1
      clear Y9 x_0 x_1 x_2 x_3 x_4 x_5 x_6 x_7 x_8 x_9 x_10 x_11
      have n14 : b8 ≠ b14 := by omega
      have n14' : b14 ≠ b8 := by omega
      have n149 : b9 ≠ b14 := by omega
      have SB := sr.out.1
      have SB2 := sr2.out.1
      have sbn : b ≠ b14 := by omega
      have sbn2 : g2 ≠ b14 := by omega
      have E := Lib.hid fun (w' : World) (h1 : Rec.SR w' g2 xs) (h2 : Rec.SR w' b xs) => Rec.same14 ⟨s0.toArray⟩ ⟨s1.toArray⟩ ⟨s2.toArray⟩ ⟨s3.toArray⟩ a1 0 num den er ru se h1 h2 hkx.out (by omega) hc2 hkc
      go_cut [60] (fun v60 wx => Hid (wx.heap[b14]? = some (.cells #[.string ⟨s0.toArray⟩, .string ⟨s1.toArray⟩, .string ⟨s2.toArray⟩, .string ⟨s3.toArray⟩, .int .i64 a1, .int .i64 0, .int .i64 num, .int .i64 den, .int .i64 er, .int .i64 ru, .int .i64 se, .slice (some ⟨g2, 0, none⟩) kk c2] 36 (0, 0))) ∧ Hid (∀ k, k ≠ b14 → wx.heap[k]? = w11.heap[k]?) ∧ Hid (w11.heap.size ≤ wx.heap.size) ∧ Hid (Below w.heap.size w wx))
      case first =>
        obtain ⟨x_0, x_1, x_2, x_3, x_4, x_5, x_6, x_7, x_8, x_9, x_10, x_11⟩ := Rec.c12 G2.out
        obtain ⟨y_0, y_1, y_2, y_3, y_4, y_5, y_6, y_7, y_8, y_9, y_10, y_11⟩ := Rec.c12 K14.out
        obtain ⟨u_0, u_1, u_2, u_3, u_4, u_5, u_6, u_7, u_8, u_9, u_10, u_11⟩ := Rec.f12 K14.out
        have r1 : (w11.setCell ⟨b14, 4, none⟩ (.int .i64 a1)).cell? ⟨b14, 8, none⟩ = some (.int .i64 ee) := cell_of_row _ b14 8 _ _ _ ((heap_setCell_same w11 b14 4 _ _ (.int .i64 a1) K14.out).trans (show _ = some (Obj.cells #[.string ⟨s0.toArray⟩, .string ⟨s1.toArray⟩, .string ⟨s2.toArray⟩, .string ⟨s3.toArray⟩, .int .i64 a1, .int .i64 0, .int .i64 num, .int .i64 den, .int .i64 ee, .int .i64 ru, .int .i64 se, .slice (some ⟨g2, 0, none⟩) kk c2] 36 (0, 0)) from rfl))
        have r2 : (w11.setCell ⟨b14, 8, none⟩ (.int .i64 er)).cell? ⟨b14, 4, none⟩ = some (.int .i64 tt) := cell_of_row _ b14 4 _ _ _ ((heap_setCell_same w11 b14 8 _ _ (.int .i64 er) K14.out).trans (show _ = some (Obj.cells #[.string ⟨s0.toArray⟩, .string ⟨s1.toArray⟩, .string ⟨s2.toArray⟩, .string ⟨s3.toArray⟩, .int .i64 tt, .int .i64 0, .int .i64 num, .int .i64 den, .int .i64 er, .int .i64 ru, .int .i64 se, .slice (some ⟨g2, 0, none⟩) kk c2] 36 (0, 0)) from rfl))
        have r3 : (w11.setCell ⟨b14, 4, none⟩ (.int .i64 a1)).cell? ⟨b8, 8, none⟩ = some (.int .i64 er) := by rw [World.cell?_setCell_far _ _ _ _ n14']; exact x_8
        have r4 : (w11.setCell ⟨b14, 8, none⟩ (.int .i64 er)).cell? ⟨b8, 4, none⟩ = some (.int .i64 a1) := by rw [World.cell?_setCell_far _ _ _ _ n14']; exact x_4
        have r5 : (w11.setCell ⟨b14, 4, none⟩ (.int .i64 a1)).frozen? ⟨b14, 8, none⟩ = false := by rw [World.frozen?_setCell]; exact u_8
        have r6 : (w11.setCell ⟨b14, 8, none⟩ (.int .i64 er)).frozen? ⟨b14, 4, none⟩ = false := by rw [World.frozen?_setCell]; exact u_4
        go_region
        all_goals go_wp2_with fail
        all_goals go_meet
        have hwb : w.heap.size ≤ b14 := by omega
        exact ⟨Lib.hid ((heap_setCell_same _ b14 8 _ _ (.int .i64 er) ((heap_setCell_same w11 b14 4 _ _ (.int .i64 a1) K14.out).trans (show _ = some (Obj.cells #[.string ⟨s0.toArray⟩, .string ⟨s1.toArray⟩, .string ⟨s2.toArray⟩, .string ⟨s3.toArray⟩, .int .i64 a1, .int .i64 0, .int .i64 num, .int .i64 den, .int .i64 ee, .int .i64 ru, .int .i64 se, .slice (some ⟨g2, 0, none⟩) kk c2] 36 (0, 0)) from rfl))).trans (show _ = some (Obj.cells #[.string ⟨s0.toArray⟩, .string ⟨s1.toArray⟩, .string ⟨s2.toArray⟩, .string ⟨s3.toArray⟩, .int .i64 a1, .int .i64 0, .int .i64 num, .int .i64 den, .int .i64 er, .int .i64 ru, .int .i64 se, .slice (some ⟨g2, 0, none⟩) kk c2] 36 (0, 0)) from rfl)), Lib.hid (fun k hk => (Below.heap_setCell (w11.setCell ⟨b14, 4, none⟩ (.int .i64 a1)) ⟨b14, 8, none⟩ (.int .i64 er) k hk).trans (Below.heap_setCell w11 ⟨b14, 4, none⟩ (.int .i64 a1) k hk)), Lib.hid (by simp [World.setCell]), Lib.hid ((BW.out.setCell (p := ⟨b14, 4, none⟩) hwb (.int .i64 a1)).setCell (p := ⟨b14, 8, none⟩) hwb (.int .i64 er)).drew⟩
      case rest =>
      obtain ⟨KY, FAR, SZ, BW2⟩ := hcut
      replace G2 := Lib.hid ((FAR.out b8 n14).trans G2.out)
      replace K9 := Lib.hid ((FAR.out b9 n149).trans K9.out)
      replace sr := Lib.hid (sr.out.kept (FAR.out b sbn) SZ.out)
      replace sr2 := Lib.hid (sr2.out.kept (FAR.out g2 sbn2) SZ.out)
      clear K14 FAR SZ BW
      obtain ⟨x_0, x_1, x_2, x_3, x_4, x_5, x_6, x_7, x_8, x_9, x_10, x_11⟩ := Rec.c12 K9.out
      obtain ⟨y_0, y_1, y_2, y_3, y_4, y_5, y_6, y_7, y_8, y_9, y_10, y_11⟩ := Rec.c12 G2.out
      obtain ⟨u_0, u_1, u_2, u_3, u_4, u_5, u_6, u_7, u_8, u_9, u_10, u_11⟩ := Rec.c12 KY.out
      go_wp2_with (first | (go_at_call 15; (with_reducible refine (E.out _ sr2.out sr.out).mono ?_); rintro e w98 ⟨rfl, hc98⟩; have BW := Lib.hid (Buf.then_ BW2.out hc98); clear hc98) | (go_at_call 8; refine (Clock.sane_any _).mono ?_; rintro e w99 ⟨rfl, hb99⟩))
      go_ret
      exact ⟨rfl, Buf.then_ BW.out hb99⟩
  · have hd : decide ((len0 : Int) ≤ 500) = false := by simp; omega
    go_enter Try.func3, Try.ntmps3
    go_wp2_with (first | (go_at_call 7; refine (light_any _ _ _ _).mono ?_; rintro e w1 ⟨rfl, rfl⟩; rw [hd]) | (go_at_call 8; refine (Clock.sane_any _).mono ?_; rintro e w2 ⟨rfl, hb⟩))
    go_ret
    exact ⟨rfl, hb⟩
end Laws
end Go.Proofs.Ytdcjpjdkamlheaa
