/- Contract of the reference's Push. -/
import Derived.Test.YtganalieljmkmaaSndC
import Derived.Test.YtganalieljmkmaaInv
import Derived.Deep.DeepCutAuto
import Derived.Deep.AppendLies
import Derived.Deep.Upon
set_option linter.unusedVariables false
set_option linter.unusedSimpArgs false
namespace Go.Proofs.Ytganalieljmkmaa
open Go.RowKit Wi Dice
namespace Snd
theorem st3b {w : World} {g : Nat} {u v r : Value} {t : TypeId} (h : w.heap[g]? = some (.cells #[u, v, r] t (0, 0))) (x y z : Value) :
    (((w.setCell ⟨g, 0, none⟩ x).setCell ⟨g, 1, none⟩ y).setCell ⟨g, 2, none⟩ z).heap[g]? = some (.cells #[x, y, z] t (0, 0)) := by
  have h1 : (w.setCell ⟨g, 0, none⟩ x).heap[g]? = some (.cells #[x, v, r] t (0, 0)) := (heap_setCell_same w g 0 _ _ x h).trans rfl
  have h2 : ((w.setCell ⟨g, 0, none⟩ x).setCell ⟨g, 1, none⟩ y).heap[g]? = some (.cells #[x, y, r] t (0, 0)) := (heap_setCell_same _ g 1 _ _ y h1).trans rfl
  exact (heap_setCell_same _ g 2 _ _ z h2).trans rfl
theorem keep_blk {w7 w5 : World} {o : Obj} {row : Option Nat} (G : (w7.alloc o).grownBy w5 row) {b : Nat} {x : Obj} (h : w7.heap[b]? = some x) (hr : some b ≠ row) : w5.heap[b]? = some x := by
  have hlt := (Array.getElem?_eq_some_iff.1 h).1
  exact (G.block b (by simp; omega) hr).trans (((new_block o).block b hlt).trans h)
theorem keep_bel {w w7 w5 : World} {o : Obj} {row : Option Nat} (G : (w7.alloc o).grownBy w5 row) (h : Below w.heap.size w w7) (hr : ∀ k, row = some k → w.heap.size ≤ k) : Below w.heap.size w w5 :=
  Below.grown (h.alloc h.size o) G (by have := h.size; simp; omega) hr
theorem wpList_append_none {P : Program} (w : World) {ops : Array Oper} {rest : List Oper} {o : Oper} {a : Act} {Q : Exit → Act → World → Prop} (hgd : o.guard = none) (s x : Operand) (t : TypeId)
    (ho : o.op = .call { callee := .builtin .append, args := #[s, x], argTypes := #[t, t] }) (e : TypeId) (i : TypeInfo) (ht : P.underlying t = some (.slice e)) (hi : P.info? e = some i)
    (hs : a.eval s = .slice none 0 0) (hx : a.eval x = .slice none 0 0) (h : wpList P ops Q rest (a.put o.dst (.slice none 0 0)) w) : wpList P ops Q (o :: rest) a w :=
  wpList_plain hgd fun K hK => by
    have hr := run_append_nothing (P := P) w t t o.type e i ht hi none 0 0 (Nat.le_refl _) (.slice none 0 0) (Src.ofNil w ht 0)
    unfold Oper.wp execOp
    simp only [ho, resolve, invoke, builtin, Sem.run_bind, Sem.run_pure, Result.andThen_ok, List.map_toArray, List.map_cons, List.map_nil, hs, hx, hr]
    exact hK _ _ h
set_option maxHeartbeats 8000000 in
set_option maxRecDepth 100000 in
theorem refpush_any {B : Nat} {w : World} {a : Option Addr} {n cap : Nat} {ms : List ByteArray} (size first : Int) (data : ByteArray) (gd : Good size first n ms) (hd : data.size ≤ 4064) (h : Row B w a n cap ms) (hz : n = 0 → a = none) :
    Calls Try.prog 13 #[.agg #[.int .i64 size, .int .i64 first, .slice a n cap], .string data] w fun e w' => Pushed w.heap.size w' size first n ms data e ∧ Below w.heap.size w w' := by
  have HG := Lib.hid gd
  obtain ⟨s1, s2, f0, f1, le, _⟩ := gd
  obtain ⟨i0, hi, hz0, hz1, hz2⟩ := info_parts infoS
  obtain ⟨W2, hW2⟩ : ∃ W2, W2 = (w.alloc (.cells #[.int .i64 size, .int .i64 first, .slice a n cap] 25)).alloc (.cells #[.int .i64 0, .int .i64 0, .slice none 0 0] 25) := ⟨_, rfl⟩
  have t2 : W2.heap[w.heap.size]? = some (.cells #[.int .i64 size, .int .i64 first, .slice a n cap] 25 (0, 0)) := by rw [hW2]; exact two_old _ _ _
  have t4 : W2.heap[w.heap.size + 1]? = some (.cells #[.int .i64 0, .int .i64 0, .slice none 0 0] 25 (0, 0)) := by rw [hW2]; exact two_new _ _ _
  have z2 : W2.heap.size = w.heap.size + 1 + 1 := by rw [hW2]; simp
  have B2 : Below w.heap.size w W2 := by rw [hW2]; exact (new_block _).alloc (by simp) _
  have R2 := Lib.hid (h.below B2)
  replace hW2 := Lib.hid hW2
  have hn256 : n ≤ 256 := by omega
  clear h
  go_enter Try.func13, Try.ntmps13
  go_wp2_with fail
  rw [← hW2.out]
  refine (refvalid_yes size first HG.out R2.out).mono ?_
  rintro e w1 ⟨rfl, hb⟩
  have t2' := (hb.block _ (by omega)).trans t2
  have t4' := (hb.block _ (by omega)).trans t4
  have B1 := B2.trans (hb.mono (by omega))
  have R1 := Lib.hid (R2.out.below hb)
  have z1 := hb.size
  clear t2 t4 B2 R2 hb hW2
  have e2 : decide ((4064 : Int) < data.size) = false := decide_eq_false (by omega)
  have e1 : ((first + (n : Int)) == 1073741825) = false := by simp; omega
  obtain ⟨a0, a1, a2⟩ := cells3 t2'
  go_wp2_with fail
  refine (refnext_any size first f0 f1 hn256).mono ?_
  rintro e w3 ⟨rfl, hb⟩
  clear a0 a1 a2
  have t2 := (hb.block _ (Array.getElem?_eq_some_iff.1 t2').1).trans t2'
  have t4 := (hb.block _ (Array.getElem?_eq_some_iff.1 t4').1).trans t4'
  have B3 := B1.trans (hb.mono (by have := B1.size; omega))
  have R3 := Lib.hid (R1.out.below hb)
  have z3 := hb.size
  clear t2' t4' B1 R1 hb
  obtain ⟨a0, a1, a2⟩ := cells3 t2
  go_upto_region 6 with fail
  have t2x := (new_block (w := w3) (.cells #[.int .i64 size, .int .i64 first, .slice a n cap] 25)).block _ (Array.getElem?_eq_some_iff.1 t2).1 |>.trans t2
  have t4x := (new_block (w := w3) (.cells #[.int .i64 size, .int .i64 first, .slice a n cap] 25)).block _ (Array.getElem?_eq_some_iff.1 t4).1 |>.trans t4
  have t7x := heap_alloc_new w3 (.cells #[.int .i64 size, .int .i64 first, .slice a n cap] 25)
  have B7 := B3.alloc B3.size (.cells #[.int .i64 size, .int .i64 first, .slice a n cap] 25)
  have R7 := Lib.hid (R3.out.below (new_block (.cells #[.int .i64 size, .int .i64 first, .slice a n cap] 25)))
  have z7 : (w3.alloc (.cells #[.int .i64 size, .int .i64 first, .slice a n cap] 25)).heap.size = w3.heap.size + 1 := by simp
  obtain ⟨b7, hb7⟩ : ∃ b7, b7 = w3.heap.size := ⟨_, rfl⟩
  rw [← hb7] at t7x z7 ⊢
  have zb7 : w.heap.size + 1 + 1 ≤ b7 := by omega
  generalize w3.alloc (.cells #[.int .i64 size, .int .i64 first, .slice a n cap] 25) = w7 at *
  clear a0 a1 a2 t2 t4 B3 R3 z3 z1 hb7
  replace t2x := Lib.hid t2x
  replace t4x := Lib.hid t4x
  replace t7x := Lib.hid t7x
  replace B7 := Lib.hid B7
  go_cut [7] (fun s7 wx => s7 = .pointer (some ⟨b7, 0, none⟩) ∧ ∃ g2 c2 : Nat, Hid (wx.heap[b7]? = some (.cells #[.int .i64 size, .int .i64 first, .slice (some ⟨g2, 0, none⟩) (n + 1) c2] 25 (0, 0))) ∧ Hid (wx.heap[w.heap.size]? = some (.cells #[.int .i64 size, .int .i64 first, .slice a n cap] 25 (0, 0))) ∧ Hid (wx.heap[w.heap.size + 1]? = some (.cells #[.int .i64 0, .int .i64 0, .slice none 0 0] 25 (0, 0))) ∧ Hid (wx.ownsRow (b7 + 1) 9 1 (.slice (some ⟨g2, 0, none⟩) (n + 1) c2) (n + 1) (ms.map Value.string ++ [.string data])) ∧ Hid (Below w.heap.size w wx))
  case first =>
    obtain ⟨hn, hr⟩ := R7.out
    replace hn := Lib.hid hn
    obtain ⟨a0, a1, a2⟩ := cells3 t2x.out
    have one : Hid (∀ u ∈ [Value.string data], u.oneCell' = true) := Lib.hid (by simp; rfl)
    rcases hr with ⟨rfl, rfl, rfl⟩ | ⟨g, off, rfl, hc, hc2, hB, hg, hcell⟩
    · obtain rfl : ms = [] := List.length_eq_zero_iff.1 hn.out.symm
      have nb := Lib.hid (show (w7.alloc (.cells #[.string data] 9)).heap[b7 + 1]? = some (.cells #[.string data] 9 (0, 0)) by rw [← z7]; exact heap_alloc_new w7 _)
      have ow := Lib.hid (World.ownsRow_nil (w7.alloc (.cells #[.string data] 9)) (b7 + 1) 9 1)
      go_wp2_with (first
        | (at_builtin; refine wpList_append_none w7 rfl (.const (.slice none 0 0)) (.tmp 23) 23 rfl 9 i0 Try.underlying23 hi rfl rfl ?_)
        | (at_builtin; refine wpList_append_lies _ rfl (.tmp 24) (.tmp 26) 23 rfl (b7 + 1) 9 i0 (.string ⟨#[]⟩) 1 16 Try.underlying23 hi hz0 hz1 hz2 rfl (by decide) (.slice none 0 0) 0 [] rfl ow.out ⟨b7 + 1, 0, none⟩ 1 1 [.string data] rfl rfl (World.news_of_block nb.out) one.out (by decide) (by decide) (by decide) (by simp; omega) _ rfl ?_; intro gq cq w5 O2 G2 hg2 hl2; have P7 := Lib.hid (keep_blk G2 t7x.out (by simp [Value.ownBlock])); have P2 := Lib.hid (keep_blk G2 t2x.out (by simp [Value.ownBlock])); have P4 := Lib.hid (keep_blk G2 t4x.out (by simp [Value.ownBlock])); have B5 := Lib.hid (keep_bel G2 B7.out (by simp [Value.ownBlock])); obtain ⟨y0, y1, y2⟩ := cells3 P7.out; obtain ⟨_, _, y5⟩ := free3 P7.out))
      go_meet
      have hgq := (O2.lt gq rfl).1
      exact ⟨rfl, gq, cq, Lib.hid ((heap_setCell_same w5 b7 2 _ _ _ P7.out).trans rfl), Lib.hid ((Below.heap_setCell w5 _ _ _ (by show w.heap.size ≠ b7; omega)).trans P2.out), Lib.hid ((Below.heap_setCell w5 _ _ _ (by show w.heap.size + 1 ≠ b7; omega)).trans P4.out), Lib.hid (Sp.own_kept O2 (fun k hk => Below.heap_setCell w5 _ _ k (by cases hk; show gq ≠ b7; omega))), Lib.hid (B5.out.setCell (p := ⟨b7, 2, none⟩) (by show w.heap.size ≤ b7; omega) _)⟩
    · have hn1 : 1 ≤ n := by rcases Nat.eq_zero_or_pos n with h0 | h0; exact absurd (hz h0) (by simp); exact h0
      have news := Lib.hid (show ∀ (j : Nat) (u : Value), (ms.map Value.string)[j]? = some u → w7.cell? ((⟨g, off, none⟩ : Addr).add j) = some u from fun j u hu => by
        obtain ⟨hj, rfl⟩ := olds_at hu
        rw [show (⟨g, off, none⟩ : Addr).add j = ⟨g, off + j, none⟩ by unfold Addr.add; split <;> simp_all]
        exact hcell j (by rw [hn.out]; exact hj))
      have hl : Hid ((ms.map Value.string).length = n * 1) := Lib.hid (by rw [List.length_map, Nat.mul_one]; exact hn.out.symm)
      have ones := Lib.hid (show ∀ u ∈ ms.map Value.string, u.oneCell' = true from fun u hu => by obtain ⟨m, _, rfl⟩ := List.mem_map.1 hu; rfl)
      have ow := Lib.hid (World.ownsRow_nil w7 (b7 + 1) 9 1)
      clear hcell
      go_wp2_with (first
        | (at_builtin; refine wpList_append_lies w7 rfl (.const (.slice none 0 0)) (.tmp 23) 23 rfl (b7 + 1) 9 i0 (.string ⟨#[]⟩) 1 16 Try.underlying23 hi hz0 hz1 hz2 rfl (by decide) (.slice none 0 0) 0 [] rfl ow.out ⟨g, off, none⟩ n cap (ms.map Value.string) rfl hl.out news.out ones.out (by omega) (by unfold maxLen; omega) (by omega) (by omega) _ rfl ?_; intro g1 c1 w4 O1 G1 hg1 hl1; simp only [Nat.zero_add, List.nil_append] at O1 ⊢; have hgq1 := (O1.lt g1 rfl).1; have r7 := Lib.hid ((G1.block _ (Array.getElem?_eq_some_iff.1 t7x.out).1 (by simp [Value.ownBlock])).trans t7x.out); have r2 := Lib.hid ((G1.block _ (Array.getElem?_eq_some_iff.1 t2x.out).1 (by simp [Value.ownBlock])).trans t2x.out); have r4 := Lib.hid ((G1.block _ (Array.getElem?_eq_some_iff.1 t4x.out).1 (by simp [Value.ownBlock])).trans t4x.out); have rB := Lib.hid (Below.grown B7.out G1 (by have := B7.out.size; omega) (by simp [Value.ownBlock])); have sz4 := G1.size; have nb := Lib.hid (heap_alloc_new w4 (.cells #[.string data] 9)); have ow1 := Lib.hid (Sp.own_below O1 (new_block (.cells #[.string data] 9))); clear O1 G1 hg1 hl1 ow news ones hl)
        | (at_builtin; refine wpList_append_lies _ rfl (.tmp 24) (.tmp 26) 23 rfl (b7 + 1) 9 i0 (.string ⟨#[]⟩) 1 16 Try.underlying23 hi hz0 hz1 hz2 rfl (by decide) (.slice (some ⟨g1, 0, none⟩) n c1) n (ms.map Value.string) rfl ow1.out ⟨w4.heap.size, 0, none⟩ 1 1 [.string data] rfl rfl (World.news_of_block nb.out) one.out (by decide) (by unfold maxLen; omega) (by omega) (by simp; omega) _ rfl ?_; intro gq cq w5 O2 G2 hg2 hl2; have P7 := Lib.hid (keep_blk G2 r7.out (by simp [Value.ownBlock]; omega)); have P2 := Lib.hid (keep_blk G2 r2.out (by simp [Value.ownBlock]; omega)); have P4 := Lib.hid (keep_blk G2 r4.out (by simp [Value.ownBlock]; omega)); have B5 := Lib.hid (keep_bel G2 rB.out (by simp [Value.ownBlock]; omega)); obtain ⟨y0, y1, y2⟩ := cells3 P7.out; obtain ⟨_, _, y5⟩ := free3 P7.out))
      go_meet
      have hgq := (O2.lt gq rfl).1
      exact ⟨rfl, gq, cq, Lib.hid ((heap_setCell_same w5 b7 2 _ _ _ P7.out).trans rfl), Lib.hid ((Below.heap_setCell w5 _ _ _ (by show w.heap.size ≠ b7; omega)).trans P2.out), Lib.hid ((Below.heap_setCell w5 _ _ _ (by show w.heap.size + 1 ≠ b7; omega)).trans P4.out), Lib.hid (Sp.own_kept O2 (fun k hk => Below.heap_setCell w5 _ _ k (by cases hk; show gq ≠ b7; omega))), Lib.hid (B5.out.setCell (p := ⟨b7, 2, none⟩) (by show w.heap.size ≤ b7; omega) _)⟩
  case rest =>
    obtain ⟨rfl, g2, c2, Q7, Q2, Q4, O, BB⟩ := hcut
    have hn := Lib.hid R7.out.1
    obtain ⟨g', cap', hv, hc1, hcm, hgb, hgl, hcell⟩ := row_of hn.out O.out
    obtain ⟨rfl, rfl⟩ : g2 = g' ∧ c2 = cap' := by cases hv; exact ⟨rfl, rfl⟩
    clear hv
    have HC := Lib.hid hcell
    have LG := Lib.hid (show b7 + 1 ≤ g2 from hgb)
    have LL := Lib.hid hgl
    clear hcell hgb hgl
    obtain ⟨a0, a1, a2⟩ := cells3 Q7.out
    obtain ⟨d0, d1, d2⟩ := cells3 Q2.out
    by_cases hsz : (n : Int) + 1 ≤ size
    · have dd : decide (size < (n : Int) + 1) = false := decide_eq_false (by omega)
      go_upto_region 9 with fail
      clear a0 a1 a2 d0 d1 d2
      generalize wc = wy at *
      have P7 := Lib.hid fun w' (hC : Below wy.heap.size wy w') => (hC.block _ (Array.getElem?_eq_some_iff.1 Q7.out).1).trans Q7.out
      have P2 := Lib.hid fun w' (hC : Below wy.heap.size wy w') => (hC.block _ (Array.getElem?_eq_some_iff.1 Q2.out).1).trans Q2.out
      have P4 := Lib.hid fun w' (hC : Below wy.heap.size wy w') => (hC.block _ (Array.getElem?_eq_some_iff.1 Q4.out).1).trans Q4.out
      refine wp_region_noPanic ?_
      refine wp_region_any (by kernel_rfl) ?_
      refine Inv.wpAny_inv (fun k => k == 3 || k == 4 || k == 5) [43, 44, 45] (fun w' => Below wy.heap.size wy w') (fun _ _ _ => True) (fun k => ([fun v_ w_ => v_ = .agg #[.int .i64 size, .int .i64 (first), .slice (some ⟨g2, 0, none⟩) (n + 1) c2], fun v_ w_ => v_ = .agg #[.int .i64 size, .int .i64 first, .slice a n cap], fun v_ w_ => v_ = .int .i64 (first + n), fun v_ w_ => True, fun v_ w_ => True, fun v_ w_ => True] : List (Value → World → Prop)).getD k (fun _ _ => True)) _ (fun σ => by simp only [Inv.putAll, List.foldl_cons, List.foldl_nil, Act.put, List.setIfInBounds_toArray, List.set_cons_zero, List.set_cons_succ]; rfl) (by kernel_rfl) (by kernel_rfl) ?_ (Below.refl _ _).drew ?_ ?_ 3 #[true, true, true, false, false, false] (by kernel_rfl) (by kernel_rfl) ?_
      · intro j k v w1 w2 hjk hv hr
        rcases k with _ | k
        · exact hv
        rcases k with _ | k
        · exact hv
        rcases k with _ | k
        · exact hv
        rcases k with _ | k
        · exact hv
        rcases k with _ | k
        · exact hv
        rcases k with _ | k
        · exact hv
        · exact hv
      · intro k t hl hd
        rcases k with _ | k
        · exact absurd hl (by decide +kernel)
        rcases k with _ | k
        · exact absurd hl (by decide +kernel)
        rcases k with _ | k
        · exact absurd hl (by decide +kernel)
        rcases k with _ | k
        · exact absurd hl (by decide +kernel)
        rcases k with _ | k
        · exact absurd hl (by decide +kernel)
        rcases k with _ | k
        · exact absurd hl (by decide +kernel)
        · simp at hd
      · show Inv.Steps _ _ _ _ _ _ _ _ [0, 1, 2]
        refine Inv.Steps.go (by decide) (by rfl) (fun σ wx hw hd K hK => ?_) ?_
        · simp only [List.getElem_toArray, List.getElem_cons_zero, List.getElem_cons_succ, Act.put, List.setIfInBounds_toArray, List.set_cons_zero, List.set_cons_succ] at hK ⊢
          obtain ⟨k0, k1, k2⟩ := cells3 (P7.out _ hw)
          go_simp
          exact hK.out _ _ hw trivial (rfl)
        refine Inv.Steps.go (by decide) (by rfl) (fun σ wx hw hd K hK => ?_) ?_
        · simp only [List.getElem_toArray, List.getElem_cons_zero, List.getElem_cons_succ, Act.put, List.setIfInBounds_toArray, List.set_cons_zero, List.set_cons_succ] at hK ⊢
          obtain ⟨k0, k1, k2⟩ := cells3 (P2.out _ hw)
          go_simp
          exact hK.out _ _ hw trivial (rfl)
        refine Inv.Steps.go (by decide) (by rfl) (fun σ wx hw hd K hK => ?_) ?_
        · obtain e44 : (σ 44) = .agg #[.int .i64 size, .int .i64 first, .slice a n cap] := hd 1 (some 44) (by kernel_rfl) (by rfl)
          simp only [List.getElem_toArray, List.getElem_cons_zero, List.getElem_cons_succ, Act.put, List.setIfInBounds_toArray, List.set_cons_zero, List.set_cons_succ, e44] at hK ⊢
          go_simp
          go_at_call 18
          refine (refnext_any size first f0 f1 hn256).mono ?_
          rintro e w1 ⟨rfl, hb⟩
          dsimp only
          exact hK.out _ _ (hw.trans (hb.mono hw.size)) trivial (rfl)
        exact Inv.Steps.nil
      · intro σ wx hw hd
        obtain e43 : (σ 43) = .agg #[.int .i64 size, .int .i64 (first), .slice (some ⟨g2, 0, none⟩) (n + 1) c2] := hd 0 (some 43) (by rfl) (by rfl)
        obtain e45 : (σ 45) = .int .i64 (first + n) := hd 2 (some 45) (by rfl) (by rfl)
        obtain ⟨k0, k1, k2⟩ := cells3 (P4.out _ hw)
        obtain ⟨l0, l1, l2⟩ := free3 (P4.out _ hw)
        refine Inv.one (i := 3) (by decide) (by kernel_rfl) (by rfl) (fun K hK => ?_)
        simp only [List.getElem_toArray, List.getElem_cons_zero, List.getElem_cons_succ, Act.put, List.setIfInBounds_toArray, List.set_cons_zero, List.set_cons_succ, e43] at hK ⊢
        go_simp
        refine hK.out _ _ ?_
        clear hK K
        refine Inv.one (i := 4) (by decide) (by kernel_rfl) (by rfl) (fun K hK => ?_)
        simp only [List.getElem_toArray, List.getElem_cons_zero, List.getElem_cons_succ, Act.put, List.setIfInBounds_toArray, List.set_cons_zero, List.set_cons_succ, e45] at hK ⊢
        go_simp
        refine hK.out _ _ ?_
        clear hK K
        refine Inv.one (i := 5) (by decide) (by kernel_rfl) (by rfl) (fun K hK => ?_)
        simp only [List.getElem_toArray, List.getElem_cons_zero, List.getElem_cons_succ, Act.put, List.setIfInBounds_toArray, List.set_cons_zero, List.set_cons_succ] at hK ⊢
        go_simp
        refine hK.out _ _ (Inv.done (by kernel_rfl) (NoPanic.normal ?_))
        clear hK K
        have F4 := st3b (P4.out _ hw) (.int .i64 size) (.int .i64 (first)) (.slice (some ⟨g2, 0, none⟩) (n + 1) c2)
        obtain ⟨m0, m1, m2⟩ := cells3 F4
        go_wp2_with fail
        refine bodyPost_ret (v := .tuple #[.agg #[.int .i64 size, .int .i64 (first), .slice (some ⟨g2, 0, none⟩) (n + 1) c2], .int .i64 (first + n), .int .i64 0]) (by simp [results, Try.results13, go_sem, m0, m1, m2]) rfl ⟨⟨_, _, _, ms ++ [data], _, rfl, ⟨by simp; exact hn.out, .inr ⟨g2, 0, rfl, hc1, hcm, by have := LG.out; omega, ?_, fun j hj => ?_⟩⟩, .inl ⟨hsz, rfl, rfl⟩⟩, ?_⟩
        · have := LL.out; have := hw.size; simp [World.setCell]; omega
        · have f4 : w.heap.size + 1 ≠ g2 := by have := LG.out; omega
          rw [far f4, far f4, far f4, hw.cell (p := ⟨g2, 0 + j, none⟩) LL.out]
          rw [Nat.zero_add]; exact HC.out j hj
        · have hh : Below w.heap.size w wx := BB.out.trans (hw.mono (by have := BB.out.size; omega))
          exact ((hh.setCell (p := ⟨w.heap.size + 1, 0, none⟩) (by simp) _).setCell (p := ⟨w.heap.size + 1, 1, none⟩) (by simp) _).setCell (p := ⟨w.heap.size + 1, 2, none⟩) (by simp) _
    · obtain rfl : size = n := by omega
      have dd : decide ((n : Int) < (n : Int) + 1) = true := decide_eq_true (by omega)
      go_upto_region 8 with fail
      have hc21 : c2 ≠ 1 := by omega
      obtain ⟨p0, p1, p2⟩ := free3 Q7.out
      have x1 : (wc.setCell ⟨b7, 2, none⟩ (.slice (some ⟨g2, 1, none⟩) n (c2 - 1))).cell? ⟨w.heap.size, 1, none⟩ = some (.int .i64 first) := (far (by omega) _ _ _).trans d1
      have x2 : (wc.setCell ⟨b7, 2, none⟩ (.slice (some ⟨g2, 1, none⟩) n (c2 - 1))).cell? ⟨b7, 1, none⟩ = some (.int .i64 first) := (World.cell?_setCell_other _ _ _ _ (by simp)).trans a1
      go_region
      have Q7b := Lib.hid (show ((wc.setCell ⟨b7, 2, none⟩ (.slice (some ⟨g2, 1, none⟩) n (c2 - 1))).setCell ⟨b7, 1, none⟩ (.int .i64 (first + 1))).drew.heap[b7]? = some (.cells #[.int .i64 n, .int .i64 (first + 1), .slice (some ⟨g2, 1, none⟩) n (c2 - 1)] 25 (0, 0)) from (heap_setCell_same _ b7 1 _ _ _ ((heap_setCell_same wc b7 2 _ _ _ Q7.out).trans rfl)).trans rfl)
      have Q2b := Lib.hid (show ((wc.setCell ⟨b7, 2, none⟩ (.slice (some ⟨g2, 1, none⟩) n (c2 - 1))).setCell ⟨b7, 1, none⟩ (.int .i64 (first + 1))).drew.heap[w.heap.size]? = _ from (Below.heap_setCell _ _ _ _ (by show w.heap.size ≠ b7; omega)).trans ((Below.heap_setCell wc _ _ _ (by show w.heap.size ≠ b7; omega)).trans Q2.out))
      have Q4b := Lib.hid (show ((wc.setCell ⟨b7, 2, none⟩ (.slice (some ⟨g2, 1, none⟩) n (c2 - 1))).setCell ⟨b7, 1, none⟩ (.int .i64 (first + 1))).drew.heap[w.heap.size + 1]? = _ from (Below.heap_setCell _ _ _ _ (by show w.heap.size + 1 ≠ b7; omega)).trans ((Below.heap_setCell wc _ _ _ (by show w.heap.size + 1 ≠ b7; omega)).trans Q4.out))
      have HCb := Lib.hid (show ∀ j, j < n + 1 → ((wc.setCell ⟨b7, 2, none⟩ (.slice (some ⟨g2, 1, none⟩) n (c2 - 1))).setCell ⟨b7, 1, none⟩ (.int .i64 (first + 1))).drew.cell? ⟨g2, j, none⟩ = _ from fun j hj => (far (by have := LG.out; omega) _ _ _).trans ((far (by have := LG.out; omega) _ _ _).trans (HC.out j hj)))
      have LLb := Lib.hid (show g2 < ((wc.setCell ⟨b7, 2, none⟩ (.slice (some ⟨g2, 1, none⟩) n (c2 - 1))).setCell ⟨b7, 1, none⟩ (.int .i64 (first + 1))).drew.heap.size by have := LL.out; simp [World.setCell]; exact this)
      have BBb := Lib.hid (show Below w.heap.size w ((wc.setCell ⟨b7, 2, none⟩ (.slice (some ⟨g2, 1, none⟩) n (c2 - 1))).setCell ⟨b7, 1, none⟩ (.int .i64 (first + 1))).drew from ((BB.out.setCell (p := ⟨b7, 2, none⟩) (by show w.heap.size ≤ b7; omega) _).setCell (p := ⟨b7, 1, none⟩) (by show w.heap.size ≤ b7; omega) _).drew)
      clear x1 x2 p0 p1 p2 a0 a1 a2 d0 d1 d2 Q7 Q2 Q4 HC LL BB O
      generalize ((wc.setCell ⟨b7, 2, none⟩ (.slice (some ⟨g2, 1, none⟩) n (c2 - 1))).setCell ⟨b7, 1, none⟩ (.int .i64 (first + 1))).drew = wy at *
      have Q7 := Q7b
      have Q2 := Q2b
      have Q4 := Q4b
      have HC := HCb
      have LL := LLb
      have BB := BBb
      clear Q7b Q2b Q4b HCb LLb BBb
      go_upto_region 9 with fail
      have P7 := Lib.hid fun w' (hC : Below wy.heap.size wy w') => (hC.block _ (Array.getElem?_eq_some_iff.1 Q7.out).1).trans Q7.out
      have P2 := Lib.hid fun w' (hC : Below wy.heap.size wy w') => (hC.block _ (Array.getElem?_eq_some_iff.1 Q2.out).1).trans Q2.out
      have P4 := Lib.hid fun w' (hC : Below wy.heap.size wy w') => (hC.block _ (Array.getElem?_eq_some_iff.1 Q4.out).1).trans Q4.out
      refine wp_region_noPanic ?_
      refine wp_region_any (by kernel_rfl) ?_
      refine Inv.wpAny_inv (fun k => k == 3 || k == 4 || k == 5) [43, 44, 45] (fun w' => Below wy.heap.size wy w') (fun _ _ _ => True) (fun k => ([fun v_ w_ => v_ = .agg #[.int .i64 (n : Nat), .int .i64 (first + 1), .slice (some ⟨g2, 1, none⟩) n (c2 - 1)], fun v_ w_ => v_ = .agg #[.int .i64 (n : Nat), .int .i64 first, .slice a n cap], fun v_ w_ => v_ = .int .i64 (first + n), fun v_ w_ => True, fun v_ w_ => True, fun v_ w_ => True] : List (Value → World → Prop)).getD k (fun _ _ => True)) _ (fun σ => by simp only [Inv.putAll, List.foldl_cons, List.foldl_nil, Act.put, List.setIfInBounds_toArray, List.set_cons_zero, List.set_cons_succ]; rfl) (by kernel_rfl) (by kernel_rfl) ?_ (Below.refl _ _).drew ?_ ?_ 3 #[true, true, true, false, false, false] (by kernel_rfl) (by kernel_rfl) ?_
      · intro j k v w1 w2 hjk hv hr
        rcases k with _ | k
        · exact hv
        rcases k with _ | k
        · exact hv
        rcases k with _ | k
        · exact hv
        rcases k with _ | k
        · exact hv
        rcases k with _ | k
        · exact hv
        rcases k with _ | k
        · exact hv
        · exact hv
      · intro k t hl hd
        rcases k with _ | k
        · exact absurd hl (by decide +kernel)
        rcases k with _ | k
        · exact absurd hl (by decide +kernel)
        rcases k with _ | k
        · exact absurd hl (by decide +kernel)
        rcases k with _ | k
        · exact absurd hl (by decide +kernel)
        rcases k with _ | k
        · exact absurd hl (by decide +kernel)
        rcases k with _ | k
        · exact absurd hl (by decide +kernel)
        · simp at hd
      · show Inv.Steps _ _ _ _ _ _ _ _ [0, 1, 2]
        refine Inv.Steps.go (by decide) (by rfl) (fun σ wx hw hd K hK => ?_) ?_
        · simp only [List.getElem_toArray, List.getElem_cons_zero, List.getElem_cons_succ, Act.put, List.setIfInBounds_toArray, List.set_cons_zero, List.set_cons_succ] at hK ⊢
          obtain ⟨k0, k1, k2⟩ := cells3 (P7.out _ hw)
          go_simp
          exact hK.out _ _ hw trivial (rfl)
        refine Inv.Steps.go (by decide) (by rfl) (fun σ wx hw hd K hK => ?_) ?_
        · simp only [List.getElem_toArray, List.getElem_cons_zero, List.getElem_cons_succ, Act.put, List.setIfInBounds_toArray, List.set_cons_zero, List.set_cons_succ] at hK ⊢
          obtain ⟨k0, k1, k2⟩ := cells3 (P2.out _ hw)
          go_simp
          exact hK.out _ _ hw trivial (rfl)
        refine Inv.Steps.go (by decide) (by rfl) (fun σ wx hw hd K hK => ?_) ?_
        · obtain e44 : (σ 44) = .agg #[.int .i64 (n : Nat), .int .i64 first, .slice a n cap] := hd 1 (some 44) (by kernel_rfl) (by rfl)
          simp only [List.getElem_toArray, List.getElem_cons_zero, List.getElem_cons_succ, Act.put, List.setIfInBounds_toArray, List.set_cons_zero, List.set_cons_succ, e44] at hK ⊢
          go_simp
          go_at_call 18
          refine (refnext_any (n : Nat) first f0 f1 hn256).mono ?_
          rintro e w1 ⟨rfl, hb⟩
          dsimp only
          exact hK.out _ _ (hw.trans (hb.mono hw.size)) trivial (rfl)
        exact Inv.Steps.nil
      · intro σ wx hw hd
        obtain e43 : (σ 43) = .agg #[.int .i64 (n : Nat), .int .i64 (first + 1), .slice (some ⟨g2, 1, none⟩) n (c2 - 1)] := hd 0 (some 43) (by rfl) (by rfl)
        obtain e45 : (σ 45) = .int .i64 (first + n) := hd 2 (some 45) (by rfl) (by rfl)
        obtain ⟨k0, k1, k2⟩ := cells3 (P4.out _ hw)
        obtain ⟨l0, l1, l2⟩ := free3 (P4.out _ hw)
        refine Inv.one (i := 3) (by decide) (by kernel_rfl) (by rfl) (fun K hK => ?_)
        simp only [List.getElem_toArray, List.getElem_cons_zero, List.getElem_cons_succ, Act.put, List.setIfInBounds_toArray, List.set_cons_zero, List.set_cons_succ, e43] at hK ⊢
        go_simp
        refine hK.out _ _ ?_
        clear hK K
        refine Inv.one (i := 4) (by decide) (by kernel_rfl) (by rfl) (fun K hK => ?_)
        simp only [List.getElem_toArray, List.getElem_cons_zero, List.getElem_cons_succ, Act.put, List.setIfInBounds_toArray, List.set_cons_zero, List.set_cons_succ, e45] at hK ⊢
        go_simp
        refine hK.out _ _ ?_
        clear hK K
        refine Inv.one (i := 5) (by decide) (by kernel_rfl) (by rfl) (fun K hK => ?_)
        simp only [List.getElem_toArray, List.getElem_cons_zero, List.getElem_cons_succ, Act.put, List.setIfInBounds_toArray, List.set_cons_zero, List.set_cons_succ] at hK ⊢
        go_simp
        refine hK.out _ _ (Inv.done (by kernel_rfl) (NoPanic.normal ?_))
        clear hK K
        have F4 := st3b (P4.out _ hw) (.int .i64 (n : Nat)) (.int .i64 (first + 1)) (.slice (some ⟨g2, 1, none⟩) n (c2 - 1))
        obtain ⟨m0, m1, m2⟩ := cells3 F4
        go_wp2_with fail
        refine bodyPost_ret (v := .tuple #[.agg #[.int .i64 (n : Nat), .int .i64 (first + 1), .slice (some ⟨g2, 1, none⟩) n (c2 - 1)], .int .i64 (first + n), .int .i64 0]) (by simp [results, Try.results13, go_sem, m0, m1, m2]) rfl ⟨⟨_, _, _, (ms ++ [data]).drop 1, _, rfl, ⟨by simp; exact hn.out, .inr ⟨g2, 1, rfl, by omega, by unfold maxLen at *; omega, by have := LG.out; omega, ?_, fun j hj => ?_⟩⟩, .inr ⟨rfl, rfl, rfl⟩⟩, ?_⟩
        · have := LL.out; have := hw.size; simp [World.setCell]; omega
        · have f4 : w.heap.size + 1 ≠ g2 := by have := LG.out; omega
          rw [far f4, far f4, far f4, hw.cell (p := ⟨g2, 1 + j, none⟩) LL.out]
          rw [HC.out (1 + j) (by omega)]; simp [List.getD_eq_getElem?_getD, Nat.add_comm 1 j]
        · have hh : Below w.heap.size w wx := BB.out.trans (hw.mono (by have := BB.out.size; omega))
          exact ((hh.setCell (p := ⟨w.heap.size + 1, 0, none⟩) (by simp) _).setCell (p := ⟨w.heap.size + 1, 1, none⟩) (by simp) _).setCell (p := ⟨w.heap.size + 1, 2, none⟩) (by simp) _
end Snd
end Go.Proofs.Ytganalieljmkmaa
