/- Senders of any numbers and strings: Push of both packages. -/
import Derived.Test.YtganalieljmkmaaSxB
import Derived.Test.YtganalieljmkmaaSndP
import Derived.Test.YtganalieljmkmaaSndD
import Derived.Deep.AppendSrc
import Derived.Deep.Upon
set_option linter.unusedVariables false
set_option linter.unusedSimpArgs false
namespace Go.Proofs.Ytganalieljmkmaa
open Go.RowKit Dice Wi
namespace Sx
open Snd (cells3 free3 two_old two_new far infoS Row Pushed olds_at below_gr row_of st3b keep_blk keep_bel)
theorem stw_of_row {B : Nat} {w : World} {a : Option Addr} {n cap : Nat} {ms : LS} (h : Row B w a n cap ms) : Stw w (.slice a n cap) ms := by
  obtain ⟨hn, h⟩ := h
  subst hn
  rcases h with ⟨rfl, h0, rfl⟩ | ⟨g, off, rfl, hc, hm, _, hg, hf⟩
  · obtain rfl : ms = [] := List.length_eq_zero_iff.1 h0
    exact Stw.nil w
  · refine ⟨_, cap, rfl, hc, hm, fun k s hs => ⟨g, off, rfl, hg, ?_⟩⟩
    have hk := (List.getElem?_eq_some_iff.1 hs).1
    rw [hf k hk, List.getD_eq_getElem?_getD, hs]
    rfl
theorem Stw.at' {w : World} {a : Option Addr} {n cap : Nat} {ms : LS} (h : Stw w (.slice a n cap) ms) : ∀ j, j < n → ∃ g o, a = some ⟨g, o, none⟩ ∧ g < w.heap.size ∧ w.cell? ⟨g, o + j, none⟩ = some (.string (ms.getD j ByteArray.empty)) := by
  obtain ⟨ad, c, e, _, _, hf⟩ := h
  cases e
  intro j hj
  obtain ⟨g, o, e, hg, hq⟩ := hf j _ (List.getElem?_eq_getElem hj)
  refine ⟨g, o, e, hg, ?_⟩
  rw [hq, List.getD_eq_getElem?_getD, List.getElem?_eq_getElem hj]
  rfl
/-- append(nil, x...) of an empty x, wherever it lies. -/
theorem wpl_empty {P : Program} (w : World) {ops : Array Oper} {rest : List Oper} {o : Oper} {a : Act} {Q : Exit → Act → World → Prop} (hgd : o.guard = none) (s x : Operand) (t : TypeId)
    (ho : o.op = .call { callee := .builtin .append, args := #[s, x], argTypes := #[t, t] }) (e : TypeId) (i : TypeInfo) (ht : P.underlying t = some (.slice e)) (hi : P.info? e = some i) (ad : Option Addr) (c : Nat)
    (hs : a.eval s = .slice none 0 0) (hx : a.eval x = .slice ad 0 c) (h : wpList P ops Q rest (a.put o.dst (.slice none 0 0)) w) : wpList P ops Q (o :: rest) a w :=
  wpList_plain hgd fun K hK => by
    have hsrc : Src P i.size t (.slice ad 0 c) 0 [] w := by
      cases ad with
      | none => exact Src.ofNil w ht c
      | some b => exact Src.ofSlice w ht b 0 c [] (by simp) (fun j u hu => by simp at hu) (fun u hu => by cases hu)
    have hr := run_append_nothing (P := P) w t t o.type e i ht hi none 0 0 (Nat.le_refl _) (.slice ad 0 c) hsrc
    unfold Oper.wp execOp
    simp only [ho, resolve, invoke, builtin, Sem.run_bind, Sem.run_pure, Result.andThen_ok, List.map_toArray, List.map_cons, List.map_nil, hs, hx, hr]
    exact hK _ _ h
set_option maxHeartbeats 8000000 in
theorem push_ok {w : World} {a : Option Addr} {n cap : Nat} {ms : List ByteArray} (size first : Int) (data : ByteArray) (ok : OkS size first ms) (lt : first + (n : Int) < 1073741825) (hd : data.size ≤ 4064) (h : Stw w (.slice a n cap) ms) :
    Calls Try.prog 12 #[.agg #[.int .i64 size, .int .i64 first, .slice a n cap], .string data] w fun e w' => Pushed w.heap.size w' size first n ms data e ∧ Below w.heap.size w w' := by
  have hnl := (Stw.len h).1
  have hncap := (Stw.len h).2
  have HV := Lib.hid (show ∀ wx, Below w.heap.size w wx → Calls Try.prog 15 #[.agg #[.int .i64 size, .int .i64 first, .slice a n cap]] wx fun e w' => e = .returned (.bool true) ∧ Below wx.heap.size wx w' from fun wx hb => by rw [← okB_yes ok]; exact valid_all size first (h.keep hb) (by have := ok.2.2.2.1; have := ok.2.1; omega))
  have HR := Lib.hid h
  obtain ⟨s1, s2, f0, le, f1, _⟩ := ok
  rw [← hnl] at le f1
  have hnl' := Lib.hid hnl
  clear hnl
  obtain ⟨i0, hi, hz0, hz1, hz2⟩ := info_parts infoS
  clear h
  go_enter Try.func12, Try.ntmps12
  go_wp2_with fail
  refine (HV.out _ ((new_block _).alloc (by simp) _)).mono ?_
  rintro e w1 ⟨rfl, hb⟩
  have B1 := Lib.hid hb
  have t2 := Lib.hid ((hb.block w.heap.size (by simp; omega)).trans (two_old _ _ _))
  have t4 := Lib.hid ((hb.block (w.heap.size + 1) (by simp)).trans (two_new _ _ _))
  have R1 := Lib.hid ((HR.out.keep ((new_block _).alloc (by simp) _)).keep hb)
  have W1 := Lib.hid (((new_block _).alloc (by simp) _).trans (hb.mono (by simp; omega)) : Below w.heap.size w w1)
  obtain ⟨a0, a1, a2⟩ := cells3 t2.out
  clear hb HR HV
  go_wp2_with fail
  refine (next_s size first f0 (by omega)).mono ?_
  rintro e w2 ⟨rfl, hb⟩
  have e1 : ((first + (n : Int)) == 1073741825) = false := by simp; omega
  have e2 : decide (4064 < (data.size : Int)) = false := by simp; omega
  have c1 : (w2.cell? ⟨w.heap.size + 1, 0, none⟩).isSome = true := by rw [hb.cell (p := ⟨w.heap.size + 1, 0, none⟩) (Array.getElem?_eq_some_iff.1 t4.out).1, (cells3 t4.out).1]; rfl
  have t2' := Lib.hid ((hb.block w.heap.size (Array.getElem?_eq_some_iff.1 t2.out).1).trans t2.out)
  have t4' := Lib.hid ((hb.block (w.heap.size + 1) (Array.getElem?_eq_some_iff.1 t4.out).1).trans t4.out)
  have R2 := Lib.hid (R1.out.keep hb)
  have W2 := Lib.hid (Buf.then_ W1.out hb)
  obtain ⟨b0, b1, b2⟩ := cells3 t2'.out
  clear hb t2 t4 R1 W1 a0 a1 a2 B1 c1
  have hn := hnl'
  have hat := Lib.hid (Stw.at' R2.out)
  obtain ⟨hc, hc2⟩ := hncap
  clear R2 hnl'
  have H4 : Hid (n ≤ 256) := Lib.hid (by omega)
  have news : ∀ (j : Nat) (u : Value), [Value.string data][j]? = some u → (w2.alloc (.cells #[.string data] 9)).cell? ((⟨w2.heap.size, 0, none⟩ : Addr).add j) = some u := fun j u hu => by
    cases j with
    | zero => simp at hu; subst hu; exact (World.cell?_alloc_mark w2 #[.string data] 9 (0, 0) 0).trans rfl
    | succ j => simp at hu
  replace news := Lib.hid news
  have one : Hid (∀ u ∈ [Value.string data], u.oneCell' = true) := Lib.hid (by simp; rfl)
  rcases a with _ | ga
  · obtain rfl : n = 0 := by
      rcases Nat.eq_zero_or_pos n with h0 | h0
      · exact h0
      · obtain ⟨g, o, e, _⟩ := hat.out 0 h0
        cases e
    obtain rfl : ms = [] := List.length_eq_zero_iff.1 hn.out.symm
    have d1 : decide (size < 1) = false := by simp; omega
    go_wp2_with (at_builtin; refine wpList_append_grows _ rfl _ _ 23 rfl 9 i0 (.string ⟨#[]⟩) 1 16 Try.underlying23 hi hz0 hz1 hz2 rfl (by decide) none 0 0 [] rfl (fun _ => ⟨rfl, rfl⟩) rfl (fun _ h => by cases h) ⟨w2.heap.size, 0, none⟩ 1 1 [.string data] rfl rfl news.out one.out (by decide) (by decide) (by decide) ?_; intro v' w3 hown hgr; obtain ⟨g3, q3, rfl, k1, k2, k3, k4, k5⟩ := row_of (ms := []) (n := 0) rfl hown; have T2 := (hgr.block w.heap.size (by have := (Array.getElem?_eq_some_iff.1 t2'.out).1; simp; omega) (by simp)).trans ((heap_alloc_old w2 _ (Array.getElem?_eq_some_iff.1 t2'.out).1).trans t2'.out); have T4 := (hgr.block (w.heap.size + 1) (by have := (Array.getElem?_eq_some_iff.1 t4'.out).1; simp; omega) (by simp)).trans ((heap_alloc_old w2 _ (Array.getElem?_eq_some_iff.1 t4'.out).1).trans t4'.out); have hq := (Array.getElem?_eq_some_iff.1 t4'.out).1; obtain ⟨m0, m1, m2⟩ := cells3 T2; obtain ⟨n0, n1, n2⟩ := cells3 T4; replace k2 := Lib.hid k2; replace k5 := Lib.hid k5; obtain ⟨o0, o1, o2⟩ := free3 T2; obtain ⟨p0, p1, p2⟩ := free3 T4; have W3 := Lib.hid (below_gr ((W2.out).alloc (W2.out.size) _) (by have := W2.out.size; simp; omega) hgr); clear T2 T4 hown hgr b0 b1 b2)
    refine bodyPost_ret (v := .tuple #[.agg #[.int .i64 size, .int .i64 first, .slice (some ⟨g3, 0, none⟩) 1 q3], .int .i64 first, .int .i64 0]) (by simp [results, Try.results12, go_sem, n0, n1, n2]) rfl ⟨⟨_, _, _, [data], _, by simp, ⟨by simp, .inr ⟨g3, 0, rfl, k1, k2.out, by simp at k3; omega, by simp; exact k4, fun j hj => ?_⟩⟩, .inl ⟨by simp; omega, rfl, rfl⟩⟩, ?_⟩
    · have f2 : w.heap.size ≠ g3 := by simp at k3; omega
      have f4 : w.heap.size + 1 ≠ g3 := by simp at k3; omega
      repeat (first | rw [far f2] | rw [far f4])
      rw [Nat.zero_add]; exact k5.out j hj
    · repeat (first | exact W3.out | refine Below.setCell ?_ (by simp) _)
  · have holds : Hid (∀ (b : Addr), some ga = some b → ∀ (j : Nat) (u : Value), (ms.map Value.string)[j]? = some u → (w2.alloc (.cells #[.string data] 9)).cell? (b.add j) = some u) := Lib.hid fun b hb j u hu => by
      cases hb
      obtain ⟨hj, rfl⟩ := olds_at hu
      obtain ⟨g, off, e, hg, hq⟩ := hat.out j (by rw [hn.out]; exact hj)
      cases e
      rw [show (⟨g, off, none⟩ : Addr).add j = ⟨g, off + j, none⟩ by unfold Addr.add; split <;> simp_all, (new_block _).cell (p := ⟨g, off + j, none⟩) hg]
      exact hq
    have hl : Hid ((ms.map Value.string).length = n * 1) := Lib.hid (by rw [List.length_map, Nat.mul_one]; exact hn.out.symm)
    clear hat
    by_cases hsz : (n : Int) + 1 ≤ size
    · have d1 : decide (size < (n : Int) + 1) = false := by simp; omega
      go_wp2_with (at_builtin; refine wpList_append_grows _ rfl _ _ 23 rfl 9 i0 (.string ⟨#[]⟩) 1 16 Try.underlying23 hi hz0 hz1 hz2 rfl (by decide) (some ga) n n (ms.map Value.string) rfl (fun h => by cases h) hl.out holds.out ⟨w2.heap.size, 0, none⟩ 1 1 [.string data] rfl rfl news.out one.out (by omega) (by unfold maxLen; omega) (by omega) ?_; intro v' w3 hown hgr; obtain ⟨g3, q3, rfl, k1, k2, k3, k4, k5⟩ := row_of hn.out hown; have T2 := (hgr.block w.heap.size (by have := (Array.getElem?_eq_some_iff.1 t2'.out).1; simp; omega) (by simp)).trans ((heap_alloc_old w2 _ (Array.getElem?_eq_some_iff.1 t2'.out).1).trans t2'.out); have T4 := (hgr.block (w.heap.size + 1) (by have := (Array.getElem?_eq_some_iff.1 t4'.out).1; simp; omega) (by simp)).trans ((heap_alloc_old w2 _ (Array.getElem?_eq_some_iff.1 t4'.out).1).trans t4'.out); have hq := (Array.getElem?_eq_some_iff.1 t4'.out).1; obtain ⟨m0, m1, m2⟩ := cells3 T2; obtain ⟨n0, n1, n2⟩ := cells3 T4; replace k2 := Lib.hid k2; replace k5 := Lib.hid k5; obtain ⟨o0, o1, o2⟩ := free3 T2; obtain ⟨p0, p1, p2⟩ := free3 T4; have W3 := Lib.hid (below_gr ((W2.out).alloc (W2.out.size) _) (by have := W2.out.size; simp; omega) hgr); clear T2 T4 hown hgr b0 b1 b2)
      refine bodyPost_ret (v := .tuple #[.agg #[.int .i64 size, .int .i64 first, .slice (some ⟨g3, 0, none⟩) (n + 1) q3], .int .i64 (first + n), .int .i64 0]) (by simp [results, Try.results12, go_sem, n0, n1, n2]) rfl ⟨⟨_, _, _, ms ++ [data], _, rfl, ⟨by simp; exact hn.out, .inr ⟨g3, 0, rfl, k1, k2.out, by simp at k3; omega, by simp; exact k4, fun j hj => ?_⟩⟩, .inl ⟨hsz, rfl, rfl⟩⟩, ?_⟩
      · have f2 : w.heap.size ≠ g3 := by simp at k3; omega
        have f4 : w.heap.size + 1 ≠ g3 := by simp at k3; omega
        repeat (first | rw [far f2] | rw [far f4])
        rw [Nat.zero_add]; exact k5.out j hj
      · repeat (first | exact W3.out | refine Below.setCell ?_ (by simp) _)
    · have d1 : decide (size < (n : Int) + 1) = true := by simp; omega
      go_wp2_with (at_builtin; refine wpList_append_grows _ rfl _ _ 23 rfl 9 i0 (.string ⟨#[]⟩) 1 16 Try.underlying23 hi hz0 hz1 hz2 rfl (by decide) (some ga) n n (ms.map Value.string) rfl (fun h => by cases h) hl.out holds.out ⟨w2.heap.size, 0, none⟩ 1 1 [.string data] rfl rfl news.out one.out (by omega) (by unfold maxLen; omega) (by omega) ?_; intro v' w3 hown hgr; obtain ⟨g3, q3, rfl, k1, k2, k3, k4, k5⟩ := row_of hn.out hown; have T2 := (hgr.block w.heap.size (by have := (Array.getElem?_eq_some_iff.1 t2'.out).1; simp; omega) (by simp)).trans ((heap_alloc_old w2 _ (Array.getElem?_eq_some_iff.1 t2'.out).1).trans t2'.out); have T4 := (hgr.block (w.heap.size + 1) (by have := (Array.getElem?_eq_some_iff.1 t4'.out).1; simp; omega) (by simp)).trans ((heap_alloc_old w2 _ (Array.getElem?_eq_some_iff.1 t4'.out).1).trans t4'.out); have hq := (Array.getElem?_eq_some_iff.1 t4'.out).1; obtain ⟨m0, m1, m2⟩ := cells3 T2; obtain ⟨n0, n1, n2⟩ := cells3 T4; replace k2 := Lib.hid k2; replace k5 := Lib.hid k5; obtain ⟨o0, o1, o2⟩ := free3 T2; obtain ⟨p0, p1, p2⟩ := free3 T4; have W3 := Lib.hid (below_gr ((W2.out).alloc (W2.out.size) _) (by have := W2.out.size; simp; omega) hgr); clear T2 T4 hown hgr b0 b1 b2)
      refine bodyPost_ret (v := .tuple #[.agg #[.int .i64 size, .int .i64 (first + 1), .slice (some ⟨g3, 1, none⟩) n n], .int .i64 (first + n), .int .i64 0]) (by simp [results, Try.results12, go_sem, n0, n1, n2]) rfl ⟨⟨_, _, _, (ms ++ [data]).drop 1, _, rfl, ⟨by simp; exact hn.out, .inr ⟨g3, 1, rfl, Nat.le_refl _, by unfold maxLen; omega, by simp at k3; omega, by simp; exact k4, fun j hj => ?_⟩⟩, .inr ⟨by omega, rfl, rfl⟩⟩, ?_⟩
      · have f2 : w.heap.size ≠ g3 := by simp at k3; omega
        have f4 : w.heap.size + 1 ≠ g3 := by simp at k3; omega
        repeat (first | rw [far f2] | rw [far f4])
        rw [k5.out (1 + j) (by omega)]; simp [List.getD_eq_getElem?_getD, Nat.add_comm 1 j]
      · repeat (first | exact W3.out | refine Below.setCell ?_ (by simp) _)
set_option maxHeartbeats 8000000 in
set_option maxRecDepth 100000 in
theorem refpush_ok {w : World} {a : Option Addr} {n cap : Nat} {ms : List ByteArray} (size first : Int) (data : ByteArray) (ok : OkS size first ms) (lt : first + (n : Int) < 1073741825) (hd : data.size ≤ 4064) (h : Stw w (.slice a n cap) ms) :
    Calls Try.prog 13 #[.agg #[.int .i64 size, .int .i64 first, .slice a n cap], .string data] w fun e w' => Pushed w.heap.size w' size first n ms data e ∧ Below w.heap.size w w' := by
  have hnl := (Stw.len h).1
  have hncap := (Stw.len h).2
  have HV := Lib.hid (show ∀ wx, Below w.heap.size w wx → Calls Try.prog 16 #[.agg #[.int .i64 size, .int .i64 first, .slice a n cap]] wx fun e w' => e = .returned (.bool true) ∧ Below wx.heap.size wx w' from fun wx hb => by rw [← okB_yes ok]; exact refvalid_all size first (h.keep hb) (by have := ok.2.2.2.1; have := ok.2.1; omega))
  obtain ⟨s1, s2, f0, le, f1, _⟩ := ok
  rw [← hnl] at le f1
  have hnl' := Lib.hid hnl
  clear hnl
  obtain ⟨i0, hi, hz0, hz1, hz2⟩ := info_parts infoS
  obtain ⟨W2, hW2⟩ : ∃ W2, W2 = (w.alloc (.cells #[.int .i64 size, .int .i64 first, .slice a n cap] 25)).alloc (.cells #[.int .i64 0, .int .i64 0, .slice none 0 0] 25) := ⟨_, rfl⟩
  have t2 : W2.heap[w.heap.size]? = some (.cells #[.int .i64 size, .int .i64 first, .slice a n cap] 25 (0, 0)) := by rw [hW2]; exact two_old _ _ _
  have t4 : W2.heap[w.heap.size + 1]? = some (.cells #[.int .i64 0, .int .i64 0, .slice none 0 0] 25 (0, 0)) := by rw [hW2]; exact two_new _ _ _
  have z2 : W2.heap.size = w.heap.size + 1 + 1 := by rw [hW2]; simp
  have B2 : Below w.heap.size w W2 := by rw [hW2]; exact (new_block _).alloc (by simp) _
  have R2 := Lib.hid (h.keep B2)
  replace hW2 := Lib.hid hW2
  have hn256 : n ≤ 256 := by omega
  clear h
  go_enter Try.func13, Try.ntmps13
  go_wp2_with fail
  rw [← hW2.out]
  refine (HV.out _ B2).mono ?_
  rintro e w1 ⟨rfl, hb⟩
  have t2' := (hb.block _ (by omega)).trans t2
  have t4' := (hb.block _ (by omega)).trans t4
  have B1 := B2.trans (hb.mono (by omega))
  have R1 := Lib.hid (R2.out.keep hb)
  have z1 := hb.size
  clear t2 t4 B2 R2 hb hW2
  have e2 : decide ((4064 : Int) < data.size) = false := decide_eq_false (by omega)
  have e1 : ((first + (n : Int)) == 1073741825) = false := by simp; omega
  obtain ⟨a0, a1, a2⟩ := cells3 t2'
  go_wp2_with fail
  refine (refnext_s size first f0 (by omega)).mono ?_
  rintro e w3 ⟨rfl, hb⟩
  clear a0 a1 a2
  have t2 := (hb.block _ (Array.getElem?_eq_some_iff.1 t2').1).trans t2'
  have t4 := (hb.block _ (Array.getElem?_eq_some_iff.1 t4').1).trans t4'
  have B3 := B1.trans (hb.mono (by have := B1.size; omega))
  have R3 := Lib.hid (R1.out.keep hb)
  have z3 := hb.size
  clear t2' t4' B1 R1 hb
  obtain ⟨a0, a1, a2⟩ := cells3 t2
  go_upto_region 6 with fail
  have t2x := (new_block (w := w3) (.cells #[.int .i64 size, .int .i64 first, .slice a n cap] 25)).block _ (Array.getElem?_eq_some_iff.1 t2).1 |>.trans t2
  have t4x := (new_block (w := w3) (.cells #[.int .i64 size, .int .i64 first, .slice a n cap] 25)).block _ (Array.getElem?_eq_some_iff.1 t4).1 |>.trans t4
  have t7x := heap_alloc_new w3 (.cells #[.int .i64 size, .int .i64 first, .slice a n cap] 25)
  have B7 := B3.alloc B3.size (.cells #[.int .i64 size, .int .i64 first, .slice a n cap] 25)
  have R7 := Lib.hid (R3.out.keep (new_block (.cells #[.int .i64 size, .int .i64 first, .slice a n cap] 25)))
  have z7 : (w3.alloc (.cells #[.int .i64 size, .int .i64 first, .slice a n cap] 25)).heap.size = w3.heap.size + 1 := by simp
  obtain ⟨b7, hb7⟩ : ∃ b7, b7 = w3.heap.size := ⟨_, rfl⟩
  rw [← hb7] at t7x z7 ⊢
  have zb7 : w.heap.size + 1 + 1 ≤ b7 := by omega
  generalize w3.alloc (.cells #[.int .i64 size, .int .i64 first, .slice a n cap] 25) = w7 at *
  clear a0 a1 a2 t2 t4 B3 R3 z3 z1 hb7
  replace t2x := Lib.hid t2x
  replace t4x := Lib.hid t4x
  replace t7x := Lib.hid t7x
  replace B7 := Lib.hid B7
  go_cut [7] (fun s7 wx => s7 = .pointer (some ⟨b7, 0, none⟩) ∧ ∃ g2 c2 : Nat, Hid (wx.heap[b7]? = some (.cells #[.int .i64 size, .int .i64 first, .slice (some ⟨g2, 0, none⟩) (n + 1) c2] 25 (0, 0))) ∧ Hid (wx.heap[w.heap.size]? = some (.cells #[.int .i64 size, .int .i64 first, .slice a n cap] 25 (0, 0))) ∧ Hid (wx.heap[w.heap.size + 1]? = some (.cells #[.int .i64 0, .int .i64 0, .slice none 0 0] 25 (0, 0))) ∧ Hid (wx.ownsRow (b7 + 1) 9 1 (.slice (some ⟨g2, 0, none⟩) (n + 1) c2) (n + 1) (ms.map Value.string ++ [.string data])) ∧ Hid (Below w.heap.size w wx))
  case first =>
    have hn := hnl'
    have hat := Lib.hid (Stw.at' R7.out)
    obtain ⟨hc, hc2⟩ := hncap
    obtain ⟨a0, a1, a2⟩ := cells3 t2x.out
    have one : Hid (∀ u ∈ [Value.string data], u.oneCell' = true) := Lib.hid (by simp; rfl)
    rcases Nat.eq_zero_or_pos n with rfl | hn1
    · obtain rfl : ms = [] := List.length_eq_zero_iff.1 hn.out.symm
      have nb := Lib.hid (show (w7.alloc (.cells #[.string data] 9)).heap[b7 + 1]? = some (.cells #[.string data] 9 (0, 0)) by rw [← z7]; exact heap_alloc_new w7 _)
      have ow := Lib.hid (World.ownsRow_nil (w7.alloc (.cells #[.string data] 9)) (b7 + 1) 9 1)
      go_wp2_with (first
        | (at_builtin; refine wpl_empty w7 rfl (.const (.slice none 0 0)) (.tmp 23) 23 rfl 9 i0 Try.underlying23 hi a cap rfl rfl ?_)
        | (at_builtin; refine wpList_append_lies _ rfl (.tmp 24) (.tmp 26) 23 rfl (b7 + 1) 9 i0 (.string ⟨#[]⟩) 1 16 Try.underlying23 hi hz0 hz1 hz2 rfl (by decide) (.slice none 0 0) 0 [] rfl ow.out ⟨b7 + 1, 0, none⟩ 1 1 [.string data] rfl rfl (World.news_of_block nb.out) one.out (by decide) (by decide) (by decide) (by simp; omega) _ rfl ?_; intro gq cq w5 O2 G2 hg2 hl2; have P7 := Lib.hid (keep_blk G2 t7x.out (by simp [Value.ownBlock])); have P2 := Lib.hid (keep_blk G2 t2x.out (by simp [Value.ownBlock])); have P4 := Lib.hid (keep_blk G2 t4x.out (by simp [Value.ownBlock])); have B5 := Lib.hid (keep_bel G2 B7.out (by simp [Value.ownBlock])); obtain ⟨y0, y1, y2⟩ := cells3 P7.out; obtain ⟨_, _, y5⟩ := free3 P7.out))
      go_meet
      have hgq := (O2.lt gq rfl).1
      exact ⟨rfl, gq, cq, Lib.hid ((heap_setCell_same w5 b7 2 _ _ _ P7.out).trans rfl), Lib.hid ((Below.heap_setCell w5 _ _ _ (by show w.heap.size ≠ b7; omega)).trans P2.out), Lib.hid ((Below.heap_setCell w5 _ _ _ (by show w.heap.size + 1 ≠ b7; omega)).trans P4.out), Lib.hid (Sp.own_kept O2 (fun k hk => Below.heap_setCell w5 _ _ k (by cases hk; show gq ≠ b7; omega))), Lib.hid (B5.out.setCell (p := ⟨b7, 2, none⟩) (by show w.heap.size ≤ b7; omega) _)⟩
    · obtain ⟨g, off, rfl, hg, _⟩ := hat.out 0 hn1
      have news := Lib.hid (show ∀ (j : Nat) (u : Value), (ms.map Value.string)[j]? = some u → w7.cell? ((⟨g, off, none⟩ : Addr).add j) = some u from fun j u hu => by
        obtain ⟨hj, rfl⟩ := olds_at hu
        rw [show (⟨g, off, none⟩ : Addr).add j = ⟨g, off + j, none⟩ by unfold Addr.add; split <;> simp_all]
        obtain ⟨g', off', e', _, hq⟩ := hat.out j (by rw [hn.out]; exact hj)
        cases e'
        exact hq)
      have hl : Hid ((ms.map Value.string).length = n * 1) := Lib.hid (by rw [List.length_map, Nat.mul_one]; exact hn.out.symm)
      have ones := Lib.hid (show ∀ u ∈ ms.map Value.string, u.oneCell' = true from fun u hu => by obtain ⟨m, _, rfl⟩ := List.mem_map.1 hu; rfl)
      have ow := Lib.hid (World.ownsRow_nil w7 (b7 + 1) 9 1)
      clear hat
      go_wp2_with (first
        | (at_builtin; refine wpList_append_lies w7 rfl (.const (.slice none 0 0)) (.tmp 23) 23 rfl (b7 + 1) 9 i0 (.string ⟨#[]⟩) 1 16 Try.underlying23 hi hz0 hz1 hz2 rfl (by decide) (.slice none 0 0) 0 [] rfl ow.out ⟨g, off, none⟩ n cap (ms.map Value.string) rfl hl.out news.out ones.out (by omega) (by unfold maxLen; omega) (by omega) (by omega) _ rfl ?_; intro g1 c1 w4 O1 G1 hg1 hl1; simp only [Nat.zero_add, List.nil_append] at O1 ⊢; have hgq1 := (O1.lt g1 rfl).1; have r7 := Lib.hid ((G1.block _ (Array.getElem?_eq_some_iff.1 t7x.out).1 (by simp [Value.ownBlock])).trans t7x.out); have r2 := Lib.hid ((G1.block _ (Array.getElem?_eq_some_iff.1 t2x.out).1 (by simp [Value.ownBlock])).trans t2x.out); have r4 := Lib.hid ((G1.block _ (Array.getElem?_eq_some_iff.1 t4x.out).1 (by simp [Value.ownBlock])).trans t4x.out); have rB := Lib.hid (Below.grown B7.out G1 (by have := B7.out.size; omega) (by simp [Value.ownBlock])); have sz4 := G1.size; have nb := Lib.hid (heap_alloc_new w4 (.cells #[.string data] 9)); have ow1 := Lib.hid (Sp.own_below O1 (new_block (.cells #[.string data] 9))); clear O1 G1 hg1 hl1 ow news ones hl)
        | (at_builtin; refine wpList_append_lies _ rfl (.tmp 24) (.tmp 26) 23 rfl (b7 + 1) 9 i0 (.string ⟨#[]⟩) 1 16 Try.underlying23 hi hz0 hz1 hz2 rfl (by decide) (.slice (some ⟨g1, 0, none⟩) n c1) n (ms.map Value.string) rfl ow1.out ⟨w4.heap.size, 0, none⟩ 1 1 [.string data] rfl rfl (World.news_of_block nb.out) one.out (by decide) (by unfold maxLen; omega) (by omega) (by simp; omega) _ rfl ?_; intro gq cq w5 O2 G2 hg2 hl2; have P7 := Lib.hid (keep_blk G2 r7.out (by simp [Value.ownBlock]; omega)); have P2 := Lib.hid (keep_blk G2 r2.out (by simp [Value.ownBlock]; omega)); have P4 := Lib.hid (keep_blk G2 r4.out (by simp [Value.ownBlock]; omega)); have B5 := Lib.hid (keep_bel G2 rB.out (by simp [Value.ownBlock]; omega)); obtain ⟨y0, y1, y2⟩ := cells3 P7.out; obtain ⟨_, _, y5⟩ := free3 P7.out))
      go_meet
      have hgq := (O2.lt gq rfl).1
      exact ⟨rfl, gq, cq, Lib.hid ((heap_setCell_same w5 b7 2 _ _ _ P7.out).trans rfl), Lib.hid ((Below.heap_setCell w5 _ _ _ (by show w.heap.size ≠ b7; omega)).trans P2.out), Lib.hid ((Below.heap_setCell w5 _ _ _ (by show w.heap.size + 1 ≠ b7; omega)).trans P4.out), Lib.hid (Sp.own_kept O2 (fun k hk => Below.heap_setCell w5 _ _ k (by cases hk; show gq ≠ b7; omega))), Lib.hid (B5.out.setCell (p := ⟨b7, 2, none⟩) (by show w.heap.size ≤ b7; omega) _)⟩
  case rest =>
    obtain ⟨rfl, g2, c2, Q7, Q2, Q4, O, BB⟩ := hcut
    have hn := hnl'
    obtain ⟨g', cap', hv, hc1, hcm, hgb, hgl, hcell⟩ := row_of hn.out O.out
    obtain ⟨rfl, rfl⟩ : g2 = g' ∧ c2 = cap' := by cases hv; exact ⟨rfl, rfl⟩
    clear hv
    have HC := Lib.hid hcell
    have LG := Lib.hid (show b7 + 1 ≤ g2 from hgb)
    have LL := Lib.hid hgl
    clear hcell hgb hgl
    obtain ⟨a0, a1, a2⟩ := cells3 Q7.out
    obtain ⟨d0, d1, d2⟩ := cells3 Q2.out
    by_cases hsz : (n : Int) + 1 ≤ size
    · have dd : decide (size < (n : Int) + 1) = false := decide_eq_false (by omega)
      go_upto_region 9 with fail
      clear a0 a1 a2 d0 d1 d2
      generalize wc = wy at *
      have P7 := Lib.hid fun w' (hC : Below wy.heap.size wy w') => (hC.block _ (Array.getElem?_eq_some_iff.1 Q7.out).1).trans Q7.out
      have P2 := Lib.hid fun w' (hC : Below wy.heap.size wy w') => (hC.block _ (Array.getElem?_eq_some_iff.1 Q2.out).1).trans Q2.out
      have P4 := Lib.hid fun w' (hC : Below wy.heap.size wy w') => (hC.block _ (Array.getElem?_eq_some_iff.1 Q4.out).1).trans Q4.out
      refine wp_region_noPanic ?_
      refine wp_region_any (by kernel_rfl) ?_
      refine Inv.wpAny_inv (fun k => k == 3 || k == 4 || k == 5) [43, 44, 45] (fun w' => Below wy.heap.size wy w') (fun _ _ _ => True) (fun k => ([fun v_ w_ => v_ = .agg #[.int .i64 size, .int .i64 (first), .slice (some ⟨g2, 0, none⟩) (n + 1) c2], fun v_ w_ => v_ = .agg #[.int .i64 size, .int .i64 first, .slice a n cap], fun v_ w_ => v_ = .int .i64 (first + n), fun v_ w_ => True, fun v_ w_ => True, fun v_ w_ => True] : List (Value → World → Prop)).getD k (fun _ _ => True)) _ (fun σ => by simp only [Inv.putAll, List.foldl_cons, List.foldl_nil, Act.put, List.setIfInBounds_toArray, List.set_cons_zero, List.set_cons_succ]; rfl) (by kernel_rfl) (by kernel_rfl) ?_ (Below.refl _ _).drew ?_ ?_ 3 #[true, true, true, false, false, false] (by kernel_rfl) (by kernel_rfl) ?_
      · intro j k v w1 w2 hjk hv hr
        rcases k with _ | k
        · exact hv
        rcases k with _ | k
        · exact hv
        rcases k with _ | k
        · exact hv
        rcases k with _ | k
        · exact hv
        rcases k with _ | k
        · exact hv
        rcases k with _ | k
        · exact hv
        · exact hv
      · intro k t hl hd
        rcases k with _ | k
        · exact absurd hl (by decide +kernel)
        rcases k with _ | k
        · exact absurd hl (by decide +kernel)
        rcases k with _ | k
        · exact absurd hl (by decide +kernel)
        rcases k with _ | k
        · exact absurd hl (by decide +kernel)
        rcases k with _ | k
        · exact absurd hl (by decide +kernel)
        rcases k with _ | k
        · exact absurd hl (by decide +kernel)
        · simp at hd
      · show Inv.Steps _ _ _ _ _ _ _ _ [0, 1, 2]
        refine Inv.Steps.go (by decide) (by rfl) (fun σ wx hw hd K hK => ?_) ?_
        · simp only [List.getElem_toArray, List.getElem_cons_zero, List.getElem_cons_succ, Act.put, List.setIfInBounds_toArray, List.set_cons_zero, List.set_cons_succ] at hK ⊢
          obtain ⟨k0, k1, k2⟩ := cells3 (P7.out _ hw)
          go_simp
          exact hK.out _ _ hw trivial (rfl)
        refine Inv.Steps.go (by decide) (by rfl) (fun σ wx hw hd K hK => ?_) ?_
        · simp only [List.getElem_toArray, List.getElem_cons_zero, List.getElem_cons_succ, Act.put, List.setIfInBounds_toArray, List.set_cons_zero, List.set_cons_succ] at hK ⊢
          obtain ⟨k0, k1, k2⟩ := cells3 (P2.out _ hw)
          go_simp
          exact hK.out _ _ hw trivial (rfl)
        refine Inv.Steps.go (by decide) (by rfl) (fun σ wx hw hd K hK => ?_) ?_
        · obtain e44 : (σ 44) = .agg #[.int .i64 size, .int .i64 first, .slice a n cap] := hd 1 (some 44) (by kernel_rfl) (by rfl)
          simp only [List.getElem_toArray, List.getElem_cons_zero, List.getElem_cons_succ, Act.put, List.setIfInBounds_toArray, List.set_cons_zero, List.set_cons_succ, e44] at hK ⊢
          go_simp
          go_at_call 18
          refine (refnext_s size first f0 (by omega)).mono ?_
          rintro e w1 ⟨rfl, hb⟩
          dsimp only
          exact hK.out _ _ (hw.trans (hb.mono hw.size)) trivial (rfl)
        exact Inv.Steps.nil
      · intro σ wx hw hd
        obtain e43 : (σ 43) = .agg #[.int .i64 size, .int .i64 (first), .slice (some ⟨g2, 0, none⟩) (n + 1) c2] := hd 0 (some 43) (by rfl) (by rfl)
        obtain e45 : (σ 45) = .int .i64 (first + n) := hd 2 (some 45) (by rfl) (by rfl)
        obtain ⟨k0, k1, k2⟩ := cells3 (P4.out _ hw)
        obtain ⟨l0, l1, l2⟩ := free3 (P4.out _ hw)
        refine Inv.one (i := 3) (by decide) (by kernel_rfl) (by rfl) (fun K hK => ?_)
        simp only [List.getElem_toArray, List.getElem_cons_zero, List.getElem_cons_succ, Act.put, List.setIfInBounds_toArray, List.set_cons_zero, List.set_cons_succ, e43] at hK ⊢
        go_simp
        refine hK.out _ _ ?_
        clear hK K
        refine Inv.one (i := 4) (by decide) (by kernel_rfl) (by rfl) (fun K hK => ?_)
        simp only [List.getElem_toArray, List.getElem_cons_zero, List.getElem_cons_succ, Act.put, List.setIfInBounds_toArray, List.set_cons_zero, List.set_cons_succ, e45] at hK ⊢
        go_simp
        refine hK.out _ _ ?_
        clear hK K
        refine Inv.one (i := 5) (by decide) (by kernel_rfl) (by rfl) (fun K hK => ?_)
        simp only [List.getElem_toArray, List.getElem_cons_zero, List.getElem_cons_succ, Act.put, List.setIfInBounds_toArray, List.set_cons_zero, List.set_cons_succ] at hK ⊢
        go_simp
        refine hK.out _ _ (Inv.done (by kernel_rfl) (NoPanic.normal ?_))
        clear hK K
        have F4 := st3b (P4.out _ hw) (.int .i64 size) (.int .i64 (first)) (.slice (some ⟨g2, 0, none⟩) (n + 1) c2)
        obtain ⟨m0, m1, m2⟩ := cells3 F4
        go_wp2_with fail
        refine bodyPost_ret (v := .tuple #[.agg #[.int .i64 size, .int .i64 (first), .slice (some ⟨g2, 0, none⟩) (n + 1) c2], .int .i64 (first + n), .int .i64 0]) (by simp [results, Try.results13, go_sem, m0, m1, m2]) rfl ⟨⟨_, _, _, ms ++ [data], _, rfl, ⟨by simp; exact hn.out, .inr ⟨g2, 0, rfl, hc1, hcm, by have := LG.out; omega, ?_, fun j hj => ?_⟩⟩, .inl ⟨hsz, rfl, rfl⟩⟩, ?_⟩
        · have := LL.out; have := hw.size; simp [World.setCell]; omega
        · have f4 : w.heap.size + 1 ≠ g2 := by have := LG.out; omega
          rw [far f4, far f4, far f4, hw.cell (p := ⟨g2, 0 + j, none⟩) LL.out]
          rw [Nat.zero_add]; exact HC.out j hj
        · have hh : Below w.heap.size w wx := BB.out.trans (hw.mono (by have := BB.out.size; omega))
          exact ((hh.setCell (p := ⟨w.heap.size + 1, 0, none⟩) (by simp) _).setCell (p := ⟨w.heap.size + 1, 1, none⟩) (by simp) _).setCell (p := ⟨w.heap.size + 1, 2, none⟩) (by simp) _
    · obtain rfl : size = n := by omega
      have dd : decide ((n : Int) < (n : Int) + 1) = true := decide_eq_true (by omega)
      go_upto_region 8 with fail
      have hc21 : c2 ≠ 1 := by omega
      obtain ⟨p0, p1, p2⟩ := free3 Q7.out
      have x1 : (wc.setCell ⟨b7, 2, none⟩ (.slice (some ⟨g2, 1, none⟩) n (c2 - 1))).cell? ⟨w.heap.size, 1, none⟩ = some (.int .i64 first) := (far (by omega) _ _ _).trans d1
      have x2 : (wc.setCell ⟨b7, 2, none⟩ (.slice (some ⟨g2, 1, none⟩) n (c2 - 1))).cell? ⟨b7, 1, none⟩ = some (.int .i64 first) := (World.cell?_setCell_other _ _ _ _ (by simp)).trans a1
      go_region
      have Q7b := Lib.hid (show ((wc.setCell ⟨b7, 2, none⟩ (.slice (some ⟨g2, 1, none⟩) n (c2 - 1))).setCell ⟨b7, 1, none⟩ (.int .i64 (first + 1))).drew.heap[b7]? = some (.cells #[.int .i64 n, .int .i64 (first + 1), .slice (some ⟨g2, 1, none⟩) n (c2 - 1)] 25 (0, 0)) from (heap_setCell_same _ b7 1 _ _ _ ((heap_setCell_same wc b7 2 _ _ _ Q7.out).trans rfl)).trans rfl)
      have Q2b := Lib.hid (show ((wc.setCell ⟨b7, 2, none⟩ (.slice (some ⟨g2, 1, none⟩) n (c2 - 1))).setCell ⟨b7, 1, none⟩ (.int .i64 (first + 1))).drew.heap[w.heap.size]? = _ from (Below.heap_setCell _ _ _ _ (by show w.heap.size ≠ b7; omega)).trans ((Below.heap_setCell wc _ _ _ (by show w.heap.size ≠ b7; omega)).trans Q2.out))
      have Q4b := Lib.hid (show ((wc.setCell ⟨b7, 2, none⟩ (.slice (some ⟨g2, 1, none⟩) n (c2 - 1))).setCell ⟨b7, 1, none⟩ (.int .i64 (first + 1))).drew.heap[w.heap.size + 1]? = _ from (Below.heap_setCell _ _ _ _ (by show w.heap.size + 1 ≠ b7; omega)).trans ((Below.heap_setCell wc _ _ _ (by show w.heap.size + 1 ≠ b7; omega)).trans Q4.out))
      have HCb := Lib.hid (show ∀ j, j < n + 1 → ((wc.setCell ⟨b7, 2, none⟩ (.slice (some ⟨g2, 1, none⟩) n (c2 - 1))).setCell ⟨b7, 1, none⟩ (.int .i64 (first + 1))).drew.cell? ⟨g2, j, none⟩ = _ from fun j hj => (far (by have := LG.out; omega) _ _ _).trans ((far (by have := LG.out; omega) _ _ _).trans (HC.out j hj)))
      have LLb := Lib.hid (show g2 < ((wc.setCell ⟨b7, 2, none⟩ (.slice (some ⟨g2, 1, none⟩) n (c2 - 1))).setCell ⟨b7, 1, none⟩ (.int .i64 (first + 1))).drew.heap.size by have := LL.out; simp [World.setCell]; exact this)
      have BBb := Lib.hid (show Below w.heap.size w ((wc.setCell ⟨b7, 2, none⟩ (.slice (some ⟨g2, 1, none⟩) n (c2 - 1))).setCell ⟨b7, 1, none⟩ (.int .i64 (first + 1))).drew from ((BB.out.setCell (p := ⟨b7, 2, none⟩) (by show w.heap.size ≤ b7; omega) _).setCell (p := ⟨b7, 1, none⟩) (by show w.heap.size ≤ b7; omega) _).drew)
      clear x1 x2 p0 p1 p2 a0 a1 a2 d0 d1 d2 Q7 Q2 Q4 HC LL BB O
      generalize ((wc.setCell ⟨b7, 2, none⟩ (.slice (some ⟨g2, 1, none⟩) n (c2 - 1))).setCell ⟨b7, 1, none⟩ (.int .i64 (first + 1))).drew = wy at *
      have Q7 := Q7b
      have Q2 := Q2b
      have Q4 := Q4b
      have HC := HCb
      have LL := LLb
      have BB := BBb
      clear Q7b Q2b Q4b HCb LLb BBb
      go_upto_region 9 with fail
      have P7 := Lib.hid fun w' (hC : Below wy.heap.size wy w') => (hC.block _ (Array.getElem?_eq_some_iff.1 Q7.out).1).trans Q7.out
      have P2 := Lib.hid fun w' (hC : Below wy.heap.size wy w') => (hC.block _ (Array.getElem?_eq_some_iff.1 Q2.out).1).trans Q2.out
      have P4 := Lib.hid fun w' (hC : Below wy.heap.size wy w') => (hC.block _ (Array.getElem?_eq_some_iff.1 Q4.out).1).trans Q4.out
      refine wp_region_noPanic ?_
      refine wp_region_any (by kernel_rfl) ?_
      refine Inv.wpAny_inv (fun k => k == 3 || k == 4 || k == 5) [43, 44, 45] (fun w' => Below wy.heap.size wy w') (fun _ _ _ => True) (fun k => ([fun v_ w_ => v_ = .agg #[.int .i64 (n : Nat), .int .i64 (first + 1), .slice (some ⟨g2, 1, none⟩) n (c2 - 1)], fun v_ w_ => v_ = .agg #[.int .i64 (n : Nat), .int .i64 first, .slice a n cap], fun v_ w_ => v_ = .int .i64 (first + n), fun v_ w_ => True, fun v_ w_ => True, fun v_ w_ => True] : List (Value → World → Prop)).getD k (fun _ _ => True)) _ (fun σ => by simp only [Inv.putAll, List.foldl_cons, List.foldl_nil, Act.put, List.setIfInBounds_toArray, List.set_cons_zero, List.set_cons_succ]; rfl) (by kernel_rfl) (by kernel_rfl) ?_ (Below.refl _ _).drew ?_ ?_ 3 #[true, true, true, false, false, false] (by kernel_rfl) (by kernel_rfl) ?_
      · intro j k v w1 w2 hjk hv hr
        rcases k with _ | k
        · exact hv
        rcases k with _ | k
        · exact hv
        rcases k with _ | k
        · exact hv
        rcases k with _ | k
        · exact hv
        rcases k with _ | k
        · exact hv
        rcases k with _ | k
        · exact hv
        · exact hv
      · intro k t hl hd
        rcases k with _ | k
        · exact absurd hl (by decide +kernel)
        rcases k with _ | k
        · exact absurd hl (by decide +kernel)
        rcases k with _ | k
        · exact absurd hl (by decide +kernel)
        rcases k with _ | k
        · exact absurd hl (by decide +kernel)
        rcases k with _ | k
        · exact absurd hl (by decide +kernel)
        rcases k with _ | k
        · exact absurd hl (by decide +kernel)
        · simp at hd
      · show Inv.Steps _ _ _ _ _ _ _ _ [0, 1, 2]
        refine Inv.Steps.go (by decide) (by rfl) (fun σ wx hw hd K hK => ?_) ?_
        · simp only [List.getElem_toArray, List.getElem_cons_zero, List.getElem_cons_succ, Act.put, List.setIfInBounds_toArray, List.set_cons_zero, List.set_cons_succ] at hK ⊢
          obtain ⟨k0, k1, k2⟩ := cells3 (P7.out _ hw)
          go_simp
          exact hK.out _ _ hw trivial (rfl)
        refine Inv.Steps.go (by decide) (by rfl) (fun σ wx hw hd K hK => ?_) ?_
        · simp only [List.getElem_toArray, List.getElem_cons_zero, List.getElem_cons_succ, Act.put, List.setIfInBounds_toArray, List.set_cons_zero, List.set_cons_succ] at hK ⊢
          obtain ⟨k0, k1, k2⟩ := cells3 (P2.out _ hw)
          go_simp
          exact hK.out _ _ hw trivial (rfl)
        refine Inv.Steps.go (by decide) (by rfl) (fun σ wx hw hd K hK => ?_) ?_
        · obtain e44 : (σ 44) = .agg #[.int .i64 (n : Nat), .int .i64 first, .slice a n cap] := hd 1 (some 44) (by kernel_rfl) (by rfl)
          simp only [List.getElem_toArray, List.getElem_cons_zero, List.getElem_cons_succ, Act.put, List.setIfInBounds_toArray, List.set_cons_zero, List.set_cons_succ, e44] at hK ⊢
          go_simp
          go_at_call 18
          refine (refnext_s (n : Nat) first f0 (by omega)).mono ?_
          rintro e w1 ⟨rfl, hb⟩
          dsimp only
          exact hK.out _ _ (hw.trans (hb.mono hw.size)) trivial (rfl)
        exact Inv.Steps.nil
      · intro σ wx hw hd
        obtain e43 : (σ 43) = .agg #[.int .i64 (n : Nat), .int .i64 (first + 1), .slice (some ⟨g2, 1, none⟩) n (c2 - 1)] := hd 0 (some 43) (by rfl) (by rfl)
        obtain e45 : (σ 45) = .int .i64 (first + n) := hd 2 (some 45) (by rfl) (by rfl)
        obtain ⟨k0, k1, k2⟩ := cells3 (P4.out _ hw)
        obtain ⟨l0, l1, l2⟩ := free3 (P4.out _ hw)
        refine Inv.one (i := 3) (by decide) (by kernel_rfl) (by rfl) (fun K hK => ?_)
        simp only [List.getElem_toArray, List.getElem_cons_zero, List.getElem_cons_succ, Act.put, List.setIfInBounds_toArray, List.set_cons_zero, List.set_cons_succ, e43] at hK ⊢
        go_simp
        refine hK.out _ _ ?_
        clear hK K
        refine Inv.one (i := 4) (by decide) (by kernel_rfl) (by rfl) (fun K hK => ?_)
        simp only [List.getElem_toArray, List.getElem_cons_zero, List.getElem_cons_succ, Act.put, List.setIfInBounds_toArray, List.set_cons_zero, List.set_cons_succ, e45] at hK ⊢
        go_simp
        refine hK.out _ _ ?_
        clear hK K
        refine Inv.one (i := 5) (by decide) (by kernel_rfl) (by rfl) (fun K hK => ?_)
        simp only [List.getElem_toArray, List.getElem_cons_zero, List.getElem_cons_succ, Act.put, List.setIfInBounds_toArray, List.set_cons_zero, List.set_cons_succ] at hK ⊢
        go_simp
        refine hK.out _ _ (Inv.done (by kernel_rfl) (NoPanic.normal ?_))
        clear hK K
        have F4 := st3b (P4.out _ hw) (.int .i64 (n : Nat)) (.int .i64 (first + 1)) (.slice (some ⟨g2, 1, none⟩) n (c2 - 1))
        obtain ⟨m0, m1, m2⟩ := cells3 F4
        go_wp2_with fail
        refine bodyPost_ret (v := .tuple #[.agg #[.int .i64 (n : Nat), .int .i64 (first + 1), .slice (some ⟨g2, 1, none⟩) n (c2 - 1)], .int .i64 (first + n), .int .i64 0]) (by simp [results, Try.results13, go_sem, m0, m1, m2]) rfl ⟨⟨_, _, _, (ms ++ [data]).drop 1, _, rfl, ⟨by simp; exact hn.out, .inr ⟨g2, 1, rfl, by omega, by unfold maxLen at *; omega, by have := LG.out; omega, ?_, fun j hj => ?_⟩⟩, .inr ⟨rfl, rfl, rfl⟩⟩, ?_⟩
        · have := LL.out; have := hw.size; simp [World.setCell]; omega
        · have f4 : w.heap.size + 1 ≠ g2 := by have := LG.out; omega
          rw [far f4, far f4, far f4, hw.cell (p := ⟨g2, 1 + j, none⟩) LL.out]
          rw [HC.out (1 + j) (by omega)]; simp [List.getD_eq_getElem?_getD, Nat.add_comm 1 j]
        · have hh : Below w.heap.size w wx := BB.out.trans (hw.mono (by have := BB.out.size; omega))
          exact ((hh.setCell (p := ⟨w.heap.size + 1, 0, none⟩) (by simp) _).setCell (p := ⟨w.heap.size + 1, 1, none⟩) (by simp) _).setCell (p := ⟨w.heap.size + 1, 2, none⟩) (by simp) _
end Sx
end Go.Proofs.Ytganalieljmkmaa
