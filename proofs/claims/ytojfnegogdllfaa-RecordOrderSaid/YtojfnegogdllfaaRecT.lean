/- (*Dice).Records. -/
import Derived.Test.YtojfnegogdllfaaRecS
import Derived.Deep.DeepCutAuto
set_option linter.unusedVariables false
set_option linter.unusedSimpArgs false
namespace Go.Proofs.Ytojfnegogdllfaa
open Go.RowKit
namespace Rec
open Dice Sc
theorem append12 {P : Program} {ops : Array Oper} {rest : List Oper} {o : Oper} {a : Act} {Q : Exit → Act → World → Prop} (hgd : o.guard = none) (s x : Operand) (t : TypeId)
    (ho : o.op = .call { callee := .builtin .append, args := #[s, x], argTypes := #[t, t] })
    (B : Nat) (e e1 : TypeId) (i : TypeInfo) (z : Value) (bytes : Nat) (ht : P.underlying t = some (.slice e)) (hi : P.info? e = some i) (hz : i.zero = some z) (hsize : i.size = 12) (hby : i.bytes = bytes) (hzs : z.cells.size = 12)
    {w : World} {v : Value} {n : Nat} {xs : List Value} (hv : a.eval s = v) (h : w.ownsRow B e 12 v n xs) (hB : B ≤ w.heap.size)
    (U : List Value) (hU : U.length = 12) (h1 : ∀ u ∈ U, u.oneCell' = true) (hx : a.eval x = .slice (some ⟨w.heap.size, 0, none⟩) 1 1) (h63 : n + 1 ≤ maxLen) (hbytes : (n + 1) * bytes ≤ 140737488355328)
    (hK : ∀ v' w', w'.ownsRow B e 12 v' (n + 1) (xs ++ U) → (w.alloc (.cells U.toArray e1)).grownBy w' v.ownBlock → wpList P ops Q rest (a.put o.dst v') w') : wpList P ops Q (o :: rest) a (w.alloc (.cells U.toArray e1)) := by
  have hc : ∀ j, (w.alloc (.cells U.toArray e1)).cell? ⟨w.heap.size, j, none⟩ = U.toArray[j]? := fun j => World.cell?_alloc_mark w U.toArray e1 (0, 0) j
  refine wpList_append_own _ hgd s x t ho B e i z 12 bytes ht hi hz hsize hby hzs (by decide) v n xs hv (h.alloc _) ⟨w.heap.size, 0, none⟩ 1 1 U hx (by simp [hU]) (fun j u hu => ?_) h1 h63 hbytes (by simp; omega) (fun v' w' h2 h3 _ => hK v' w' h2 h3)
  rw [Addr.add_lit, Nat.zero_add, hc]
  rw [← hu]
  simp
theorem RS.addr {s0 s1 s2 s3 : List UInt8} {B : Nat} {w : World} {ad : Option Addr} {mm mc : Nat} {L : List Rd} (h : RS s0 s1 s2 s3 B w (.slice ad mm mc) L) (h0 : 0 < mm) : ∃ go : Nat, ad = some ⟨go, 0, none⟩ ∧ B ≤ go ∧ go < w.heap.size := by
  rcases h.own.2 with ⟨e, _⟩ | ⟨g, c, _, e, hb, hc, _⟩
  · injection e with _ e2 _; omega
  · injection e with e1 _ _; exact ⟨g, e1, hb, (Array.getElem?_eq_some_iff.1 hc).1⟩
theorem RS.range {s0 s1 s2 s3 : List UInt8} {B : Nat} {w : World} {go m c : Nat} {L : List Rd} (h : RS s0 s1 s2 s3 B w (.slice (some ⟨go, 0, none⟩) m c) L) {k : Nat} {r : Rd} (hk : L[k]? = some r) : w.rangeAt go (k * 12) (Rd.row s0 s1 s2 s3 r) :=
  fun j u hu => h.cells hk j u hu
theorem grown_past {A w1 w2 : World} {x : Option Nat} (h : A.grownBy w1 x) (hb : Below A.heap.size w1 w2) : A.grownBy w2 x :=
  ⟨by first | exact hb.os.trans h.os | exact h.os.trans hb.os, by first | exact hb.tape.trans h.tape | exact h.tape.trans hb.tape, by first | exact hb.output.trans h.output | exact h.output.trans hb.output, Nat.le_trans h.size hb.size, fun k hk hne => (hb.block k hk).trans (h.block k hk hne)⟩
/-- One round of Records: what is known between its reading and its append; A is the world behind the reading. -/
structure RQ (s0 s1 s2 s3 : List UInt8) (W w A : World) (g : Nat) (a : Option Addr) (len cap : Nat) (zs : List Int) (p5 : Nat) (v : Value) (L : List Rd) (wr : World) (r : Rd) : Prop where
  base : w.heap.size ≤ A.heap.size
  hg : g < w.heap.size
  left : Dice.Left W w A g a len cap zs
  di : Di W wr g a len cap zs
  far : A.grownBy wr (some g)
  src : A.heap[p5]? = some (.cells #[.string ⟨s0.toArray⟩, .string ⟨s1.toArray⟩, .string ⟨s2.toArray⟩, .string ⟨s3.toArray⟩] 28 (0, 0))
  p5b : w.heap.size ≤ p5
  rs : RS s0 s1 s2 s3 w.heap.size A v L
  q : wr.heap[A.heap.size]? = some (.cells (Rd.row s0 s1 s2 s3 r).toArray 32 (0, 0))
  ok : Rd.Ok s0 s1 s2 s3 w.heap.size wr r
section
variable {s0 s1 s2 s3 : List UInt8} {W w A : World} {g : Nat} {a : Option Addr} {len cap : Nat} {zs : List Int} {p5 : Nat} {v : Value} {L : List Rd} {wr wx : World} {r : Rd}
theorem RQ.next (h : RQ s0 s1 s2 s3 W w A g a len cap zs p5 v L wr r) (l : Dice.Left W wr wx g a len cap zs) : RQ s0 s1 s2 s3 W w A g a len cap zs p5 v L wx r :=
  ⟨h.base, h.hg, h.left, l.di, h.far.trans l.far, h.src, h.p5b, h.rs, (l.far.block _ (Array.getElem?_eq_some_iff.1 h.q).1 (by have := h.hg; have := h.base; simp; omega)).trans h.q, h.ok.far h.hg l.far⟩
theorem RQ.below (h : RQ s0 s1 s2 s3 W w A g a len cap zs p5 v L wr r) (l : Below wr.heap.size wr wx) : RQ s0 s1 s2 s3 W w A g a len cap zs p5 v L wx r :=
  ⟨h.base, h.hg, h.left, h.di.below l, h.far.trans (grown_of_below l), h.src, h.p5b, h.rs, (l.block _ (Array.getElem?_eq_some_iff.1 h.q).1).trans h.q, h.ok.keep l⟩
theorem RQ.left' (h : RQ s0 s1 s2 s3 W w A g a len cap zs p5 v L wr r) : Dice.Left W w wr g a len cap zs := ⟨h.di, h.left.far.trans h.far⟩
theorem RQ.rs' (h : RQ s0 s1 s2 s3 W w A g a len cap zs p5 v L wr r) : RS s0 s1 s2 s3 w.heap.size wr v L := h.rs.far h.hg h.far
theorem RQ.src' (h : RQ s0 s1 s2 s3 W w A g a len cap zs p5 v L wr r) : wr.heap[p5]? = some (.cells #[.string ⟨s0.toArray⟩, .string ⟨s1.toArray⟩, .string ⟨s2.toArray⟩, .string ⟨s3.toArray⟩] 28 (0, 0)) :=
  (h.far.block p5 (Array.getElem?_eq_some_iff.1 h.src).1 (by have := h.hg; have := h.p5b; simp; omega)).trans h.src
/-- Another record in its place. -/
theorem RQ.put (h : RQ s0 s1 s2 s3 W w A g a len cap zs p5 v L wr r) {r2 : Rd} (hb : Below A.heap.size wr wx) (hq : wx.heap[A.heap.size]? = some (.cells (Rd.row s0 s1 s2 s3 r2).toArray 32 (0, 0))) (hs : r2.b < A.heap.size) (ho : Rd.Ok s0 s1 s2 s3 w.heap.size wr r2) : RQ s0 s1 s2 s3 W w A g a len cap zs p5 v L wx r2 :=
  ⟨h.base, h.hg, h.left, (Dice.Left.past h.left.di ⟨h.di, h.far⟩ hb).di, grown_past h.far hb, h.src, h.p5b, h.rs, hq, ⟨ho.rp, ho.rx.kept (hb.block _ hs) hb.size, ho.base⟩⟩
end
theorem below_of_grown {B : Nat} {A w' : World} {row : Option Nat} (h : A.grownBy w' row) (hB : B ≤ A.heap.size) (hr : ∀ k, row = some k → B ≤ k) : Below B A w' :=
  ⟨h.os, h.tape, h.output, h.size, fun k hk => h.block k (by omega) (fun e => by have := hr k e.symm; omega)⟩
theorem own_ne_row {w : World} {B sz n : Nat} {e e' : TypeId} {v : Value} {xs : List Value} {b : Nat} {cs : Array Value} (h : w.ownsRow B e sz v n xs) (hb : w.heap[b]? = some (.cells cs e' (0, 0))) (hne : e ≠ e') : v.ownBlock ≠ some b := by
  intro he
  rcases h.2 with ⟨rfl, _⟩ | ⟨g, c, cur, rfl, _, hc, _⟩
  · simp [Value.ownBlock] at he
  · simp [Value.ownBlock] at he
    subst he
    rw [hc] at hb
    simp at hb
    exact hne hb.2
set_option maxHeartbeats 8000000 in
set_option maxRecDepth 100000 in
theorem records_any {W w : World} {g : Nat} {a : Option Addr} {len cap : Nat} {zs : List Int} (h : Di W w g a len cap zs) :
    Calls Try.prog 21 #[.pointer (some ⟨g, 0, none⟩), .int .i64 4] w fun e w' => (∃ s0 s1 s2 s3 v L, e = .returned v ∧ Src4 s0 s1 s2 s3 ∧ RS s0 s1 s2 s3 w.heap.size w' v L ∧ L.length ≤ 4) ∧ Dice.Left W w w' g a len cap zs := by
  have H := Lib.hid h
  obtain ⟨ti, hi, hz0, hz1, hz2⟩ : ∃ i, Try.prog.info? 32 = some i ∧ i.zero = some (.agg #[.string ⟨#[]⟩, .string ⟨#[]⟩, .string ⟨#[]⟩, .string ⟨#[]⟩, .int .i64 0, .int .i64 0, .int .i64 0, .int .i64 0, .int .i64 0, .int .i64 0, .int .i64 0, .slice none 0 0]) ∧ i.size = 12 ∧ i.bytes = 144 := ⟨_, rfl, by kernel_rfl, by kernel_rfl, by kernel_rfl⟩
  have hg := h.lt
  clear h
  go_enter Try.func21, Try.ntmps21
  go_wp2_with fail
  refine (Rec.source_any H.out).mono ?_
  rintro e w1 ⟨⟨s0, s1, s2, s3, rfl, q0, q1, q2, q3⟩, hl⟩
  have hS := Lib.hid (Sc.src4_of q0 q1 q2 q3)
  have L1 := Lib.hid hl
  clear hl q0 q1 q2 q3
  go_upto_region 2 with ((with_reducible refine Mid.str 28 (.tmp 5) (.tmp 10) w1.heap.size 28 #[.string ⟨#[]⟩, .string ⟨#[]⟩, .string ⟨#[]⟩, .string ⟨#[]⟩] #[.string ⟨s0.toArray⟩, .string ⟨s1.toArray⟩, .string ⟨s2.toArray⟩, .string ⟨s3.toArray⟩] (heap_alloc_new w1 _) ?_ ?_ ?_ ?_ ?_ ?_ ?_ ?_); (· rfl); (· rfl); (· first | rfl | simp [Act.eval]); (· first | rfl | simp [Act.eval]); (· kernel_rfl); (· rfl); (· simp [Value.oneCell']))
  obtain ⟨w2, hw2⟩ : ∃ w2, w2 = (w1.alloc (.cells #[.string ⟨#[]⟩, .string ⟨#[]⟩, .string ⟨#[]⟩, .string ⟨#[]⟩] 28)).setRow w1.heap.size #[.string ⟨s0.toArray⟩, .string ⟨s1.toArray⟩, .string ⟨s2.toArray⟩, .string ⟨s3.toArray⟩] := ⟨_, rfl⟩
  have N2 : Below w1.heap.size w1 w2 := by rw [hw2]; exact Mid.below_row (new_block _) _ _ (Nat.le_refl _)
  have S2 := Lib.hid (show w2.heap[w1.heap.size]? = some (.cells #[.string ⟨s0.toArray⟩, .string ⟨s1.toArray⟩, .string ⟨s2.toArray⟩, .string ⟨s3.toArray⟩] 28 (0, 0)) by rw [hw2]; exact setRow_heap _ _ _ _ _ _ (heap_alloc_new w1 _))
  have L2 := Lib.hid (L1.out.below N2)
  rw [← hw2]
  obtain ⟨p5, hp5⟩ : ∃ p, p = w1.heap.size := ⟨_, rfl⟩
  have gp5 : w.heap.size ≤ p5 := by rw [hp5]; exact L1.out.far.size
  rw [← hp5] at S2 ⊢
  clear hw2 N2 hp5 L1
  go_wp2_with fail
  refine (next_any 5 L2.out.di (by omega) (by omega)).mono ?_
  rintro e w3 ⟨⟨iv, rfl, iv0, iv1⟩, hl⟩
  have z2 := (Array.getElem?_eq_some_iff.1 S2.out).1
  have S3 := Lib.hid ((hl.far.block p5 z2 (by simp; omega)).trans S2.out)
  have L3 := Lib.hid (L2.out.trans hl)
  clear hl S2 L2 z2
  obtain ⟨i0, rfl⟩ : ∃ i0 : Nat, iv = (i0 : Int) := ⟨iv.toNat, by omega⟩
  have R3 : Hid (RS s0 s1 s2 s3 w.heap.size w3 (.slice none 0 0) []) := Lib.hid ⟨⟨rfl, .inl ⟨rfl, rfl⟩⟩, fun r hr => by simp at hr, fun _ => rfl⟩
  go_wp2_with fail
  go_loopw [6, 7] (fun v u wr => ∃ (j : Nat) (L : List Rd), u = .int .i64 j ∧ L.length + j ≤ 4 ∧ Hid (Dice.Left W w wr g a len cap zs) ∧ Hid (wr.heap[p5]? = some (.cells #[.string ⟨s0.toArray⟩, .string ⟨s1.toArray⟩, .string ⟨s2.toArray⟩, .string ⟨s3.toArray⟩] 28 (0, 0))) ∧ Hid (RS s0 s1 s2 s3 w.heap.size wr v L)) (fun _ u _ => (intOf u).toNat)
  case atStart => exact ⟨i0, [], rfl, by simp; omega, L3, S3, R3⟩
  case round =>
    clear L3 S3 R3 iv0 iv1
    obtain ⟨j, L, rfl, hj, LL, SS, RL⟩ := hrel
    obtain ⟨ad, mm, mc, hvv, hm⟩ := own_letter RL.out.own
    subst hvv
    by_cases h0 : j = 0
    · subst h0
      go_wp2_with fail
      go_ret
      exact ⟨⟨s0, s1, s2, s3, _, L, rfl, hS.out, RL.out, by omega⟩, LL.out⟩
    · have jg : ((j : Int) > 0) = True := by simp; omega
      obtain ⟨k0, k1_, k2, k3⟩ := Rec.c4 SS.out
      go_wp2_with fail
      refine (Rec.record_any ⟨s0.toArray⟩ ⟨s1.toArray⟩ ⟨s2.toArray⟩ ⟨s3.toArray⟩ 6 (by decide) (by decide) LL.out.di).mono ?_
      rintro e w5 ⟨⟨st, fi, num, den, er, ru, se, ad2, kk, cc, xs, rfl, HN, ⟨va, vb, gg, hdv, ha, hb', hnum, hden⟩, hown, hkx, kl1, kl9, HX⟩, hl⟩
      have rv : Rate.RV num den := by rw [← hnum, ← hden]; exact hdv.rv
      have er0 : 0 ≤ er ∧ er ≤ 1000 := by have := HN.er_; simp only [List.mem_cons, List.not_mem_nil, or_false] at this; omega
      have fi0 : 0 ≤ fi ∧ fi ≤ 3 := by have := HN.fi_; simp only [List.mem_cons, List.not_mem_nil, or_false] at this; omega
      have P : RP s0 s1 s2 s3 st fi num den er ru se := ⟨hS.out, by have := HN.s0; omega, by have := HN.s9; omega, fi0.1, by omega, rv, er0.1, er0.2, HN.r0, by have := HN.r9; omega, HN.q0, by have := HN.q9; omega⟩
      obtain ⟨b, c, hsl, sr, hkc, hc9, hbw⟩ := Rec.sr_own (xs := xs) hown hkx kl1
      obtain ⟨rfl, rfl⟩ : ad2 = some ⟨b, 0, none⟩ ∧ cc = c := by injection hsl with p q r; exact ⟨p, r⟩
      have wsz := LL.out.far.size
      have O5 : Rd.Ok s0 s1 s2 s3 w.heap.size w5 ⟨st, fi, num, den, er, ru, se, b, kk, cc, xs⟩ := ⟨P, ⟨sr, hkx, kl1, by show kk ≤ 1000; omega, hkc, hc9, fun x hx => by have := HX x hx; omega⟩, Nat.le_trans wsz hbw⟩
      have R5 := RL.out.far hg hl.far
      have zs5 := (Array.getElem?_eq_some_iff.1 SS.out).1
      have S5 := (hl.far.block p5 zs5 (by simp; omega)).trans SS.out
      have L5 := LL.out.trans hl
      replace O5 := Lib.hid O5
      replace R5 := Lib.hid R5
      replace S5 := Lib.hid S5
      replace L5 := Lib.hid L5
      clear hl hsl hown hdv ha hb' hnum hden HN HX sr hkx hkc hc9 rv er0 fi0 hbw wsz zs5 SS LL RL P k0 k1_ k2 k3 kl1 kl9
      go_upto_region 7 with ((with_reducible refine Mid.str 32 (.tmp 8) (.tmp 21) w5.heap.size 32 #[.string ⟨#[]⟩, .string ⟨#[]⟩, .string ⟨#[]⟩, .string ⟨#[]⟩, .int .i64 0, .int .i64 0, .int .i64 0, .int .i64 0, .int .i64 0, .int .i64 0, .int .i64 0, .slice none 0 0] #[.string ⟨s0.toArray⟩, .string ⟨s1.toArray⟩, .string ⟨s2.toArray⟩, .string ⟨s3.toArray⟩, .int .i64 st, .int .i64 fi, .int .i64 num, .int .i64 den, .int .i64 er, .int .i64 ru, .int .i64 se, .slice (some ⟨b, 0, none⟩) kk cc] (heap_alloc_new w5 _) ?_ ?_ ?_ ?_ ?_ ?_ ?_ ?_); (· rfl); (· rfl); (· first | rfl | simp [Act.eval]); (· first | rfl | simp [Act.eval]); (· kernel_rfl); (· rfl); (· simp [Value.oneCell']))
      obtain ⟨w6, hw6⟩ : ∃ w6, w6 = (w5.alloc (.cells #[.string ⟨#[]⟩, .string ⟨#[]⟩, .string ⟨#[]⟩, .string ⟨#[]⟩, .int .i64 0, .int .i64 0, .int .i64 0, .int .i64 0, .int .i64 0, .int .i64 0, .int .i64 0, .slice none 0 0] 32)).setRow w5.heap.size #[.string ⟨s0.toArray⟩, .string ⟨s1.toArray⟩, .string ⟨s2.toArray⟩, .string ⟨s3.toArray⟩, .int .i64 st, .int .i64 fi, .int .i64 num, .int .i64 den, .int .i64 er, .int .i64 ru, .int .i64 se, .slice (some ⟨b, 0, none⟩) kk cc] := ⟨_, rfl⟩
      have N6 : Below w5.heap.size w5 w6 := by rw [hw6]; exact Mid.below_row (new_block _) _ _ (Nat.le_refl _)
      have K6 := Lib.hid (show w6.heap[w5.heap.size]? = some (.cells #[.string ⟨s0.toArray⟩, .string ⟨s1.toArray⟩, .string ⟨s2.toArray⟩, .string ⟨s3.toArray⟩, .int .i64 st, .int .i64 fi, .int .i64 num, .int .i64 den, .int .i64 er, .int .i64 ru, .int .i64 se, .slice (some ⟨b, 0, none⟩) kk cc] 32 (0, 0)) by rw [hw6]; exact setRow_heap _ _ _ _ _ _ (heap_alloc_new w5 _))
      have M6 : Hid (RQ s0 s1 s2 s3 W w w5 g a len cap zs p5 (.slice ad mm mc) L w6 ⟨st, fi, num, den, er, ru, se, b, kk, cc, xs⟩) := Lib.hid ⟨L5.out.far.size, hg, L5.out, L5.out.di.below N6, grown_of_below N6, S5.out, gp5, R5.out, K6.out, O5.out.keep N6⟩
      rw [← hw6]
      obtain ⟨q8, hq8⟩ : ∃ p, p = w5.heap.size := ⟨_, rfl⟩
      rw [← hq8] at K6 ⊢
      replace hq8 := Lib.hid hq8
      have mm3 : mm ≤ 3 := by rw [hm.out]; omega
      clear hw6 N6 L5 S5 R5 O5 K6
      simp only [Act.put]
      go_cut [29] from 15 to 46 (fun s29 wx => ∃ (bb : Bool) (wy : World), wy = wx ∧ s29 = .bool bb ∧ (bb = true → 0 < mm) ∧ Hid (RQ s0 s1 s2 s3 W w w5 g a len cap zs p5 (.slice ad mm mc) L wy ⟨st, fi, num, den, er, ru, se, b, kk, cc, xs⟩))
      case first =>
        by_cases hm0 : mm = 0
        · have es : decide ((mm : Int) > 0) = false := by simp; omega
          have em : ¬ 0 < mm := by omega
          have em2 : decide (0 < mm) = false := by simp; omega
          replace hm0 := Lib.hid hm0
          go_wp2_with fail
          go_meet
          exact ⟨false, _, rfl, by simp [hm0.out], fun h => by simp at h, M6⟩
        · have es : decide ((mm : Int) > 0) = true := by simp; omega
          have em2 : decide (0 < mm) = true := by simp; omega
          have hm1 : 0 < mm := by omega
          clear hm0
          go_wp2_with fail
          refine (next_any 5 M6.out.di (by omega) (by omega)).mono ?_
          rintro e w7 ⟨⟨iw, rfl, iw0, iw1⟩, hl⟩
          have M7 := Lib.hid (M6.out.next hl)
          clear hl
          by_cases hiw : iw = 0
          · subst hiw
            go_wp2_with fail
            go_meet
            exact ⟨true, _, rfl, rfl, fun h => hm1, M7⟩
          · have ee : (iw == 0) = false := by simp [hiw]
            go_wp2_with fail
            go_meet
            exact ⟨false, _, rfl, by simp [ee], fun h => by simp at h, M7⟩
      case rest =>
        obtain ⟨bb, wy, ewy, rfl, hbb, M7⟩ := hcut
        clear M6
        subst ewy
        rename_i hKK; refine hKK _ _ ?_
        clear hKK
        go_cut [30] from 15 to 46 (fun s30 wx => ∃ (r : Rd) (wy : World), wy = wx ∧ Hid (RQ s0 s1 s2 s3 W w w5 g a len cap zs p5 (.slice ad mm mc) L wy r))
        case first =>
          cases bb with
          | false =>
            go_wp2_with fail
            go_meet
            exact ⟨_, _, rfl, M7⟩
          | true =>
            have hm1 := hbb rfl
            clear hbb
            obtain ⟨go, rfl, g1, g2⟩ := M7.out.rs.addr hm1
            have hm2 : (1 : Int) ≤ (mm : Int) := by omega
            go_wp2_with fail
            refine (next_any (mm : Int) M7.out.di hm2 (by omega)).mono ?_
            rintro e w8 ⟨⟨iw, rfl, iw0, iw1⟩, hl⟩
            have M8 := Lib.hid (M7.out.next hl)
            clear hl M7
            obtain ⟨k, rfl⟩ : ∃ k : Nat, iw = (k : Int) := ⟨iw.toNat, by omega⟩
            have kL : k < L.length := by rw [← hm.out]; omega
            obtain ⟨r, hr⟩ : ∃ r, L[k]? = some r := ⟨_, List.getElem?_eq_getElem kL⟩
            have RG := Lib.hid (M8.out.rs'.range hr)
            have RO := Lib.hid (M8.out.rs'.ok r (List.mem_of_getElem? hr))
            have RB := Lib.hid ((M8.out.rs.ok r (List.mem_of_getElem? hr)).rx.sr.1)
            replace hr := Lib.hid hr
            have k1 : (k : Int) < (mm : Int) := iw1
            have k2 : k < mm := by omega
            have M8q := M8.out.q
            rw [← hq8.out] at M8q
            replace M8q := Lib.hid M8q
            go_upto_region 9 with (first | ((with_reducible refine Mid.ldm 32 (.tmp 35) go (k * 12) (Rd.row s0 s1 s2 s3 r) RG.out ?_ ?_ ?_ ?_ ?_ ?_); (· rfl); (· rfl); (· first | rfl | simp [Act.eval]); (· exact ⟨_, rfl, rfl⟩); (· kernel_rfl)) | ((with_reducible refine Mid.str 32 (.tmp 8) (.tmp 36) q8 32 _ (Rd.row s0 s1 s2 s3 r).toArray M8q.out ?_ ?_ ?_ ?_ ?_ ?_ ?_ ?_); (· rfl); (· rfl); (· first | rfl | simp [Act.eval]); (· first | rfl | simp [Act.eval]); (· kernel_rfl); (· rfl); (· simp [Rd.row, Value.oneCell'])))
            simp only [Act.put]
            obtain ⟨w9, hw9⟩ : ∃ w9, w9 = w8.setRow q8 (Rd.row s0 s1 s2 s3 r).toArray := ⟨_, rfl⟩
            have M9 : Hid (RQ s0 s1 s2 s3 W w w5 g a len cap zs p5 (.slice (some ⟨go, 0, none⟩) mm mc) L w9 r) := by
              rw [hw9]
              exact Lib.hid (M8.out.put (Mid.below_row (Below.refl _ _) _ _ (Nat.le_of_eq hq8.out.symm)) (by rw [← hq8.out]; exact setRow_heap _ _ _ _ _ _ M8q.out) RB.out RO.out)
            rw [← hw9]
            clear hw9 M8 M8q RG
            have hr1 := hr.out
            obtain ⟨st2, fi2, num2, den2, er2, ru2, se2, b2, n2, c2, xs2⟩ := r
            clear hr1
            have K9 : w9.heap[q8]? = some (.cells #[.string ⟨s0.toArray⟩, .string ⟨s1.toArray⟩, .string ⟨s2.toArray⟩, .string ⟨s3.toArray⟩, .int .i64 st2, .int .i64 fi2, .int .i64 num2, .int .i64 den2, .int .i64 er2, .int .i64 ru2, .int .i64 se2, .slice (some ⟨b2, 0, none⟩) n2 c2] 32 (0, 0)) := by rw [hq8.out]; exact M9.out.q
            obtain ⟨_, _, _, _, _, _, _, _, _, _, k10, _⟩ := c12 K9
            clear K9
            go_wp2_with fail
            have M10 := Lib.hid (M9.out.below (new_block (.cells #[.int .i64 se2, .int .i64 9] 3)))
            refine (pick_any w9.heap.size [se2, 9] 2 2 M10.out.di (ints_alloc w9 [se2, 9] 3) rfl (by omega) (by omega) (by have := M9.out.di.lt; omega) (by simp)).mono ?_
            rintro e w11 ⟨⟨sv, rfl, hsv⟩, hl⟩
            have M11 := Lib.hid (M10.out.next hl)
            clear hl M10 M9
            have P := M11.out.ok.rp
            have sv0 : 0 ≤ sv ∧ sv ≤ 1000 := by have p1 := P.se0; have p2 := P.se9; simp at hsv; simp at p1 p2; omega
            clear P hsv
            have K11 := Lib.hid (show w11.heap[q8]? = some (.cells #[.string ⟨s0.toArray⟩, .string ⟨s1.toArray⟩, .string ⟨s2.toArray⟩, .string ⟨s3.toArray⟩, .int .i64 st2, .int .i64 fi2, .int .i64 num2, .int .i64 den2, .int .i64 er2, .int .i64 ru2, .int .i64 se2, .slice (some ⟨b2, 0, none⟩) n2 c2] 32 (0, 0)) by rw [hq8.out]; exact M11.out.q)
            obtain ⟨_, _, _, _, _, _, _, _, _, _, k10, _⟩ := c12 K11.out
            obtain ⟨_, _, _, _, _, _, _, _, _, _, f10, _⟩ := f12 K11.out
            go_wp2_with fail
            go_meet
            refine ⟨⟨st2, fi2, num2, den2, er2, ru2, sv, b2, n2, c2, xs2⟩, _, rfl, Lib.hid (M11.out.put ((Below.refl _ _).setCell (Nat.le_of_eq hq8.out.symm) _) (by rw [← hq8.out]; exact (heap_setCell_same _ _ _ _ _ _ K11.out).trans rfl) RB.out ?_)⟩
            have O := M11.out.ok
            exact ⟨⟨O.rp.src, O.rp.st0, O.rp.st9, O.rp.fi0, O.rp.fi9, O.rp.rv, O.rp.er0, O.rp.er9, O.rp.ru0, O.rp.ru9, sv0.1, sv0.2⟩, O.rx, O.base⟩
        case rest =>
          obtain ⟨r, wz, ewz, M9⟩ := hcut
          clear M7
          subst ewz
          rename_i hKK z0 z1 z2 z3 z4 z5 z6 z7 z8 z9 z10 z11 z12 z13 z14 z15 z16 z17 z18 z19 z20 z21 z22 z23 z24 z25 z26 z27 z28 z29 z30 z31
          refine hKK _ _ ?_
          clear hKK
          have hnl := Lib.hid M9.out.rs'.own
          have m1 := Lib.hid (show L.length + 1 ≤ maxLen by rw [← hm.out]; unfold maxLen; omega)
          have m2 := Lib.hid (show (L.length + 1) * 144 ≤ 140737488355328 by rw [← hm.out]; omega)
          have hsz := Lib.hid M9.out.left'.far.size
          have RO := Lib.hid (row_one (s0 := s0) (s1 := s1) (s2 := s2) (s3 := s3) r)
          obtain ⟨st2, fi2, num2, den2, er2, ru2, se2, b2, n2, c2, xs2⟩ := r
          have K9 := Lib.hid (show wz.heap[q8]? = some (.cells #[.string ⟨s0.toArray⟩, .string ⟨s1.toArray⟩, .string ⟨s2.toArray⟩, .string ⟨s3.toArray⟩, .int .i64 st2, .int .i64 fi2, .int .i64 num2, .int .i64 den2, .int .i64 er2, .int .i64 ru2, .int .i64 se2, .slice (some ⟨b2, 0, none⟩) n2 c2] 32 (0, 0)) by rw [hq8.out]; exact M9.out.q)
          go_upto_region 10 with fail
          go_wp2_with (first | ((with_reducible refine Mid.ldr 32 (.tmp 8) q8 32 #[.string ⟨s0.toArray⟩, .string ⟨s1.toArray⟩, .string ⟨s2.toArray⟩, .string ⟨s3.toArray⟩, .int .i64 st2, .int .i64 fi2, .int .i64 num2, .int .i64 den2, .int .i64 er2, .int .i64 ru2, .int .i64 se2, .slice (some ⟨b2, 0, none⟩) n2 c2] K9.out ?_ ?_ ?_ ?_ ?_ ?_); (· rfl); (· rfl); (· first | rfl | simp [Act.eval]); (· exact ⟨_, rfl, rfl⟩); (· kernel_rfl)) | (at_builtin; refine append12 rfl _ _ 51 rfl w.heap.size 32 _ ti _ 144 Try.underlying51 hi hz0 hz1 hz2 rfl (v := .slice ad mm mc) rfl hnl.out hsz.out [.string ⟨s0.toArray⟩, .string ⟨s1.toArray⟩, .string ⟨s2.toArray⟩, .string ⟨s3.toArray⟩, .int .i64 st2, .int .i64 fi2, .int .i64 num2, .int .i64 den2, .int .i64 er2, .int .i64 ru2, .int .i64 se2, .slice (some ⟨b2, 0, none⟩) n2 c2] rfl RO.out rfl m1.out m2.out ?_); intro v' w12 ho hgr; have RL2 := Lib.hid (RS.more (M9.out.rs'.keep (new_block _)) (M9.out.ok.keep (new_block _)) hgr ho); have BB := Lib.hid (below_of_grown hgr (Nat.le_trans hsz.out (new_block _).size) (fun k hk => (hnl.out.lt k hk).1)); have BP := Lib.hid (own_ne_row hnl.out M9.out.src' (by decide)); have LL2 := Lib.hid (Dice.Left.past H.out (M9.out.left'.below (new_block _)) BB.out); have SS2 := Lib.hid ((hgr.block p5 (Nat.lt_of_lt_of_le (Array.getElem?_eq_some_iff.1 M9.out.src').1 (new_block _).size) (fun e => BP.out e.symm)).trans (((new_block _).block p5 (Array.getElem?_eq_some_iff.1 M9.out.src').1).trans M9.out.src')); clear ho hgr BB BP)
          go_roundw
          case rel => exact ⟨j - 1, L ++ [⟨st2, fi2, num2, den2, er2, ru2, se2, b2, n2, c2, xs2⟩], by rw [show ((j - 1 : Nat) : Int) = (j : Int) - 1 by omega], by simp; omega, LL2, SS2, RL2⟩
          case measure => simp [intOf]; omega
end Rec
end Go.Proofs.Ytojfnegogdllfaa
