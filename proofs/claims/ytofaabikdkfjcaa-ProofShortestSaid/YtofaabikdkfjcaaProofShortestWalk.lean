/- The walk of ProofShortest. -/
import Derived.Test.YtofaabikdkfjcaaPrfU
import Derived.Test.YtofaabikdkfjcaaLocGQ
import Derived.Test.YtofaabikdkfjcaaMisP
import Derived.Test.YtofaabikdkfjcaaInvC
import Derived.Deep.DeepCutAuto
set_option linter.unusedVariables false
set_option linter.unusedSimpArgs false
namespace Go.Proofs.Ytofaabikdkfjcaa
open Go.RowKit
namespace Loc
namespace Prf
theorem wide_g {w w' : World} {s : Int} {b1 b2 n q : Nat} {lo hi : List Int} (h : Bound.Wide w s b1 b2 n lo hi) (f : w.grownBy w' (some q)) (h1 : b1 ≠ q) (h2 : b2 ≠ q) : Bound.Wide w' s b1 b2 n lo hi :=
  ⟨Mis.tv_kept h.tv (f.block b1 h.tv.e1 (fun e => h1 (by cases e; rfl))) (f.block b2 h.tv.e2 (fun e => h2 (by cases e; rfl))) f.size, h.re⟩
theorem lst_of_own {w : World} {B : Nat} {v : Value} {c : List Int} (h : w.ownsRow B 3 1 v c.length (c.map fun z => .int .i64 z)) (h0 : 0 < c.length) : ∃ g cc : Nat, v = .slice (some ⟨g, 0, none⟩) c.length cc ∧ c.length ≤ cc ∧ cc ≤ maxLen ∧ g < w.heap.size ∧ B ≤ g ∧ ∀ j (h : j < c.length), w.cell? ⟨g, 0 + j, none⟩ = some (.int .i64 c[j]) := by
  rcases Mis.own_shape h with ⟨_, e⟩ | ⟨g, cc, rfl, h1, h2, h3, h4⟩
  · omega
  · refine ⟨g, cc, rfl, h1, h2, h3, h4, fun j hj => ?_⟩
    have := World.ownsRow.cells (g := g) h rfl j (.int .i64 c[j]) (by rw [List.getElem?_map, List.getElem?_eq_getElem hj]; rfl)
    rwa [Addr.add_lit] at this
/-- What is asked of a result of the search. -/
theorem lc_of {A : World} {Ak : Ask} {R : Bx} {q : Pq} {tol : Int} {s : St} (P : Pr A Ak R q) (i : Loc.Inv Ak R s) (F : Fin Ak R tol s) : Lc Ak R s (lowF s.m s.op) (areaF s.m (pb (s.x, s.y, s.z)) s.op) := by
  have g := P.g0 _ F.inR
  rw [F.at_] at g
  have l0 : 0 ≤ lowF s.m s.op := by
    rcases (lowF_all s.op s.m).2 with e | ⟨o, ho, e⟩
    · rw [e]; exact g.1
    · obtain ⟨x1, x2⟩ := i.box o ho
      rw [e, x2]; exact (P.f0 _ x1).1
  exact ⟨F.inR, F.at_, F.sub, g.1, g.2, l0, Int.le_trans F.lo1 g.2⟩
end Prf
theorem fin_all {A : World} {Ak : Ask} {R : Bx} {q : Pq} (P : Pr A Ak R q) (tol : Int) (t0 : 0 ≤ tol) (hm : ∀ B p, Sb R B → inB B p → Ak.F B ≤ (Ak.G p).2) :
    (fin Ak R tol).fd = true ∧ Inv Ak R (fin Ak R tol) ∧ Fin Ak R tol (fin Ak R tol) := by
  have i := start_inv P.good
  have hw : wgt (add Ak start R).op ≤ ((3000 : Nat) : Int) := by have := i.pot; have := i.tk0; have := P.few; omega
  obtain ⟨j, he⟩ := run_inv P.good tol 3000 _ i hw
  have hf : (fin Ak R tol).fd = true := run_first P.good tol 2999
  exact ⟨hf, j, fin_of j hm he hf t0⟩
end Loc
namespace Loc
namespace Prf
theorem cert_last {C : Ask} {pv : Bx → Bool} : ∀ (f : Nat) (B : Bx) (c : List Int), cert C pv f B = some c → ∃ d, c = d ++ [0]
  | 0, _, _, h => by cases h
  | f + 1, B, c, h => by
    unfold cert at h
    split at h
    · cases h; exact ⟨[], rfl⟩
    · split at h
      · cases h
      · split at h
        · rename_i x y h1 h2
          cases h
          obtain ⟨d, rfl⟩ := cert_last f _ _ h2
          exact ⟨1 :: (x ++ d), by simp⟩
        · cases h
/-- One leaf less makes it none. -/
theorem short_no {C : Ask} {pv : Bx → Bool} {f : Nat} {B : Bx} {c : List Int} (h : rd C pv f B c = some []) {k : Nat} (hk : k < c.length) (h0 : c[k] = 0) : ¬ rd C pv f B (c.take k ++ c.drop (k + 1)) = some [] := by
  intro h2
  obtain ⟨d, e1, e2⟩ := rd_count f B _ _ h
  obtain ⟨d2, e3, e4⟩ := rd_count f B _ _ h2
  rw [List.append_nil] at e1 e3
  subst e1
  subst e3
  have hc : c = c.take k ++ 0 :: c.drop (k + 1) := by
    have := List.take_append_drop k c
    rw [List.drop_eq_getElem_cons hk, h0] at this
    exact this.symm
  have a0 : c.count 0 = (c.take k).count 0 + ((c.drop (k + 1)).count 0 + 1) := by
    conv => lhs; rw [hc]
    rw [List.count_append, List.count_cons]; simp
  have a1 : c.count 1 = (c.take k).count 1 + (c.drop (k + 1)).count 1 := by
    conv => lhs; rw [hc]
    rw [List.count_append, List.count_cons]; simp
  rw [List.count_append, List.count_append] at e4
  omega
theorem wp_app {P : Program} {Q : Exit → Act → World → Prop} {o : Oper} {a : Act} {K : Act → World → Prop} (s x : Operand) (t tx : TypeId)
    (ho : o.op = .call { callee := .builtin .append, args := #[s, x], argTypes := #[t, tx] })
    (e : TypeId) (i : TypeInfo) (z : Value) (bytes : Nat) (ht : P.underlying t = some (.slice e)) (hi : P.info? e = some i) (hz : i.zero = some z) (hsize : i.size = 1) (hby : i.bytes = bytes) (hzs : z.cells.size = 1)
    {B : Nat} {w : World} {v : Value} {xs : List Value} (hv : a.eval s = v) (h : Buf.Own B w v xs) (hB : B ≤ w.heap.size)
    (xv : Value) (n : Nat) (news : List Value) (hx : a.eval x = xv) (hs : Go.Src P 1 tx xv n news w) (h63 : xs.length + n ≤ maxLen) (hbytes : (xs.length + n) * bytes ≤ 140737488355328)
    (hK : ∀ v' w', Buf.Own B w' v' (xs ++ news) → w.grownBy w' v.ownBlock → K (a.put o.dst v') w') : o.wp P a w K Q := by
  obtain ⟨v', w', hrun, r1, r2⟩ := Buf.run_append (P := P) t tx o.type e i z bytes ht hi hz hsize hby hzs h hB xv n news hs h63 hbytes
  unfold Oper.wp
  simp [execOp, ho, resolve, invoke, builtin, hv, hx, hrun, Result.andThen]
  exact hK v' w' r1 r2
def iv (c : List Int) : List Value := c.map fun z => .int .i64 z
theorem iv_len (c : List Int) : (iv c).length = c.length := by simp [iv]
theorem iv_app (c d : List Int) : iv (c ++ d) = iv c ++ iv d := by simp [iv]
theorem iv_one (c : List Int) : ∀ u ∈ iv c, u.oneCell' = true := by
  intro u hu
  obtain ⟨z, _, rfl⟩ := List.mem_map.1 hu
  rfl
/-- An append's source: some of a list that can be read. -/
theorem src_of {w : World} {b o n cc : Nat} {l : List Int} (hn : n = l.length) (hc : ∀ j (h : j < l.length), w.cell? ⟨b, o + j, none⟩ = some (.int .i64 l[j])) : Go.Src Try.prog 1 22 (.slice (some ⟨b, o, none⟩) n cc) n (iv l) w :=
  Go.Src.ofSlice _ Try.underlying22 ⟨b, o, none⟩ n cc (iv l) (by rw [iv_len]; omega) (fun j u hu => by
    rw [Addr.add_lit]
    unfold iv at hu
    rw [List.getElem?_map] at hu
    cases hq : l[j]? with
    | none => rw [hq] at hu; cases hu
    | some z =>
      rw [hq] at hu
      obtain ⟨hj, rfl⟩ := List.getElem?_eq_some_iff.1 hq
      rw [hc j hj]; exact hu) (iv_one l)
/-- A list of the call's own can be read. -/
theorem lst_of_buf {w : World} {B : Nat} {v : Value} {c : List Int} (h : Buf.Own B w v (iv c)) : Lst w v c := by
  rcases h with ⟨rfl, e⟩ | ⟨g, cap, e, hb⟩
  · have : c = [] := by have := congrArg List.length e; rw [iv_len] at this; exact List.eq_nil_of_length_eq_zero (by simpa using this)
    exact .inl ⟨this, rfl⟩
  · refine .inr ⟨g, 0, cap, by rw [e, iv_len], by have := hb.le; rw [iv_len] at this; exact this, hb.lt, fun j hj => ?_⟩
    rw [Nat.zero_add, hb.cells j (by rw [iv_len]; exact hj)]
    unfold iv
    rw [List.getElem?_map, List.getElem?_eq_getElem hj]; rfl
theorem own_form {B : Nat} {w : World} {v : Value} {xs : List Value} (h : Buf.Own B w v xs) : ∃ a m c, v = .slice a m c ∧ Hid (m = xs.length) := by
  rcases h with ⟨rfl, rfl⟩ | ⟨g, cap, rfl, _⟩
  · exact ⟨none, 0, 0, rfl, Lib.hid rfl⟩
  · exact ⟨_, _, _, rfl, Lib.hid rfl⟩
end Prf
end Loc
namespace Loc
namespace Prf
theorem src_lit {w : World} {b : Nat} {l : List Int} (h : w.heap[b]? = some (.cells (iv l).toArray 3 (0, 0))) : Go.Src Try.prog 1 22 (.slice (some ⟨b, 0, none⟩) l.length l.length) l.length (iv l) w :=
  src_of rfl fun j hj => by
    rw [Nat.zero_add, cell_of_row w b j _ _ _ h]
    unfold iv
    simp [hj]
theorem src_drop {w : World} {g cc k : Nat} {c : List Int} (hc : ∀ j (h : j < c.length), w.cell? ⟨g, 0 + j, none⟩ = some (.int .i64 c[j])) (hk : k < c.length) (hcc : c.length ≤ cc) :
    Go.Src Try.prog 1 22 (.slice (if cc = k + 1 then some ⟨g, 0, none⟩ else some ⟨g, k + 1, none⟩) (c.length - (k + 1)) (cc - (k + 1))) (c.length - (k + 1)) (iv (c.drop (k + 1))) w := by
  by_cases h : cc = k + 1
  · rw [if_pos h]
    have e : c.drop (k + 1) = [] := List.drop_eq_nil_iff.2 (by omega)
    rw [e]
    exact src_of (by simp; omega) fun j hj => by simp at hj
  · rw [if_neg h]
    exact src_of (by simp) fun j hj => by
      have hj' : k + 1 + j < c.length := by simp at hj; omega
      have := hc (k + 1 + j) hj'
      rw [Nat.zero_add] at this
      rw [this, List.getElem_drop]
theorem src_take {w : World} {g cc k : Nat} {c : List Int} (hc : ∀ j (h : j < c.length), w.cell? ⟨g, 0 + j, none⟩ = some (.int .i64 c[j])) (hk : k < c.length) :
    Go.Src Try.prog 1 22 (.slice (some ⟨g, 0, none⟩) k cc) k (iv (c.take k)) w :=
  src_of (by simp; omega) fun j hj => by
    have hj' : j < c.length := by simp at hj; omega
    rw [hc j hj', List.getElem_take]
end Prf
end Loc
namespace Loc
namespace Prf
theorem keep_blk {w w' : World} {b g n c : Nat} {o : Obj} (h : w.heap[b]? = some o) (hg : w.grownBy w' (Value.slice (some ⟨g, 0, none⟩) n c).ownBlock) (hne : b ≠ g) : w'.heap[b]? = some o :=
  ((show w.grownBy w' (some g) from hg).block b (Array.getElem?_eq_some_iff.1 h).1 (fun e => hne (by cases e; rfl))).trans h
end Prf
end Loc
namespace Laws
open _root_.Go.Proofs.Ytofaabikdkfjcaa.Loc _root_.Go.Proofs.Ytofaabikdkfjcaa.Loc.Prf
set_option maxHeartbeats 16000000 in
set_option maxRecDepth 100000 in
theorem proofShortest_walk (a0 : Option Addr) (len0 cap0 : Nat) (z0 : List Int) (w : World) (w0 : Buf.IsRow .i64 w a0 len0 cap0 z0) :
    Calls Try.prog 4 #[.slice a0 len0 cap0] w fun e w' => e = .returned (.bool true) ∧ Below w.heap.size w w' := by
  go_enter Try.func4, Try.ntmps4
  go_wp2_with fail
  refine (Src.new_any a0 len0 cap0 z0 w w0).mono ?_
  rintro e0 wA ⟨rfl, m, hd⟩
  have L0 := Lib.hid (Src.Left.refl hd)
  have sA : w.heap.size < wA.heap.size := hd.lt
  clear hd w0
  go_wp2_with fail
  refine (Mis.problem_any 4 5 (by decide) (by decide) (by decide) (by decide) L0.out.di).mono ?_
  rintro e0 w2 ⟨⟨a1, a2, a3, d1, d2, d3, s, b1, b2, n, c1, c2, lo, hi, gp0, cpp, L, cp, nl, rfl, hnl, P⟩, hl⟩
  have s2 : wA.heap.size ≤ w2.heap.size := hl.far.size
  replace L0 := Lib.hid (L0.out.trans hl)
  have PG := Lib.hid P
  replace hnl := Lib.hid hnl
  clear hl P
  go_upto_region 3 with ((with_reducible refine Mid.str 33 (.tmp 4) (.tmp 17) w2.heap.size 33 #[.int .i64 0, .int .i64 0, .int .i64 0, .int .i64 0, .int .i64 0, .int .i64 0, .int .i64 0, .slice none 0 0, .slice none 0 0, .slice none 0 0, .int .i64 0] #[.int .i64 a1, .int .i64 a2, .int .i64 a3, .int .i64 d1, .int .i64 d2, .int .i64 d3, .int .i64 s, .slice (some ⟨b1, 0, none⟩) n c1, .slice (some ⟨b2, 0, none⟩) n c2, .slice (some ⟨gp0, 0, none⟩) nl cpp, .int .i64 cp] (heap_alloc_new w2 _) ?_ ?_ ?_ ?_ ?_ ?_ ?_ ?_); (· rfl); (· rfl); (· first | rfl | simp [Act.eval]); (· first | rfl | simp [Act.eval]); (· kernel_rfl); (· rfl); (· simp [Value.oneCell']))
  try simp only [Act.put]
  have N3 : Below w2.heap.size w2 ((w2.alloc (.cells #[.int .i64 0, .int .i64 0, .int .i64 0, .int .i64 0, .int .i64 0, .int .i64 0, .int .i64 0, .slice none 0 0, .slice none 0 0, .slice none 0 0, .int .i64 0] 33)).setRow w2.heap.size #[.int .i64 a1, .int .i64 a2, .int .i64 a3, .int .i64 d1, .int .i64 d2, .int .i64 d3, .int .i64 s, .slice (some ⟨b1, 0, none⟩) n c1, .slice (some ⟨b2, 0, none⟩) n c2, .slice (some ⟨gp0, 0, none⟩) nl cpp, .int .i64 cp]) := Mid.below_row (Mis.new_block _) _ _ (Nat.le_refl _)
  have K3 := Lib.hid (show ((w2.alloc (.cells #[.int .i64 0, .int .i64 0, .int .i64 0, .int .i64 0, .int .i64 0, .int .i64 0, .int .i64 0, .slice none 0 0, .slice none 0 0, .slice none 0 0, .int .i64 0] 33)).setRow w2.heap.size #[.int .i64 a1, .int .i64 a2, .int .i64 a3, .int .i64 d1, .int .i64 d2, .int .i64 d3, .int .i64 s, .slice (some ⟨b1, 0, none⟩) n c1, .slice (some ⟨b2, 0, none⟩) n c2, .slice (some ⟨gp0, 0, none⟩) nl cpp, .int .i64 cp]).heap[w2.heap.size]? = some (.cells #[.int .i64 a1, .int .i64 a2, .int .i64 a3, .int .i64 d1, .int .i64 d2, .int .i64 d3, .int .i64 s, .slice (some ⟨b1, 0, none⟩) n c1, .slice (some ⟨b2, 0, none⟩) n c2, .slice (some ⟨gp0, 0, none⟩) nl cpp, .int .i64 cp] 33 (0, 0)) from setRow_heap _ _ _ _ _ _ (heap_alloc_new w2 _))
  obtain ⟨w3, hw3⟩ : ∃ z, z = (w2.alloc (.cells #[.int .i64 0, .int .i64 0, .int .i64 0, .int .i64 0, .int .i64 0, .int .i64 0, .int .i64 0, .slice none 0 0, .slice none 0 0, .slice none 0 0, .int .i64 0] 33)).setRow w2.heap.size #[.int .i64 a1, .int .i64 a2, .int .i64 a3, .int .i64 d1, .int .i64 d2, .int .i64 d3, .int .i64 s, .slice (some ⟨b1, 0, none⟩) n c1, .slice (some ⟨b2, 0, none⟩) n c2, .slice (some ⟨gp0, 0, none⟩) nl cpp, .int .i64 cp] := ⟨_, rfl⟩
  rw [← hw3] at N3 K3 ⊢
  obtain ⟨p4, hp4⟩ : ∃ z, z = w2.heap.size := ⟨_, rfl⟩
  have p4g : w.heap.size ≠ p4 := by omega
  rw [← hp4] at K3 ⊢
  have W3 := Lib.hid (PG.out.tv.below N3)
  have R3 := Lib.hid (PG.out.pr.below N3)
  have L3 := Lib.hid (L0.out.below N3)
  clear hw3 hp4 N3 L0 s2
  go_wp2_with fail
  have L4 := Lib.hid (L3.out.below (Mis.new_block (.cells #[.int .i64 0, .int .i64 20, .int .i64 100] 3)))
  have K4 := Lib.hid (Mis.hb (Mis.new_block (w := w3) (.cells #[.int .i64 0, .int .i64 20, .int .i64 100] 3)) K3.out)
  have W4 := Lib.hid (W3.out.below (Mis.new_block (.cells #[.int .i64 0, .int .i64 20, .int .i64 100] 3)))
  have R4 := Lib.hid (R3.out.below (Mis.new_block (.cells #[.int .i64 0, .int .i64 20, .int .i64 100] 3)))
  refine (Src.pick_any w3.heap.size [0, 20, 100] 3 3 L4.out.di (Src.ints_alloc w3 [0, 20, 100] 3) rfl (by omega) (by omega) (by have := L3.out.di.lt; omega) (by simp)).mono ?_
  rintro e w5 ⟨⟨tol, rfl, htol⟩, hl⟩
  have t0 : 0 ≤ tol ∧ tol ≤ 100 := by simp at htol; omega
  obtain ⟨tb0, tb9⟩ := t0
  have K5 := Lib.hid (hl.blk K4.out (Ne.symm p4g))
  have gb1 : b1 ≠ w.heap.size := by have := PG.out.m1; omega
  have gb2 : b2 ≠ w.heap.size := by have := PG.out.m2; omega
  have gbp : gp0 ≠ w.heap.size := by have := PG.out.gB; omega
  have W5 : Hid (Bound.Wide w5 s b1 b2 n lo hi) := Lib.hid ⟨Mis.tv_kept W4.out.tv (hl.far.block b1 W4.out.tv.e1 (by simpa using gb1)) (hl.far.block b2 W4.out.tv.e2 (by simpa using gb2)) hl.far.size, W4.out.re⟩
  have R5 : Hid (Mis.PhR w5 gp0 L) := Lib.hid (R4.out.kept (hl.far.block gp0 R4.out.1 (by simpa using gbp)) hl.far.size)
  have D5 := Lib.hid (L4.out.trans hl).di
  clear hl htol K3 K4 W3 W4 R3 R4 L3 L4
  have hR := PG.out.rg (by decide)
  obtain ⟨SP, hSP⟩ := spl_of (R := ⟨a1, a2, a3, d1, d2, d3⟩) hR.bv
  have n9 : L.length ≤ 64 := by have := PG.out.n9; omega
  have c9 : cp ≤ 2000 := by have := PG.out.c9; omega
  have c0 := PG.out.c0
  have rv : Sb ⟨a1, a2, a3, d1, d2, d3⟩ ⟨a1, a2, a3, d1, d2, d3⟩ := ⟨Int.le_refl _, Int.le_refl _, Int.le_refl _, Int.le_refl _, Int.le_refl _, Int.le_refl _, hR.bv.x, hR.bv.y, hR.bv.z⟩
  have few := few_of 4 (by decide) rv PG.out.s1 PG.out.s2 PG.out.s3
  have phs := PG.out.ph.s
  have n1 := PG.out.n1
  have hle : nl ≤ cpp := by have := PG.out.le; rw [hnl.out]; exact this
  have PF := fun (w' : World) (h' : w5.grownBy w' (some w.heap.size)) => pr_of (R := ⟨a1, a2, a3, d1, d2, d3⟩) hR (wide_g W5.out h' gb1 gb2) phs n1 n9 c0 c9 (R5.out.kept (h'.block gp0 R5.out.1 (fun e => gbp (by cases e; rfl))) h'.size) hnl.out hle c1 c2 hSP few
  have HM := mono_of (R := ⟨a1, a2, a3, d1, d2, d3⟩) hR W5.out phs n1 c0
  obtain ⟨Ak, hAk⟩ : ∃ z : Loc.Ask, z = ⟨Fm s lo hi cp L, Gm s lo hi cp L, SP⟩ := ⟨_, rfl⟩
  have hpt : ∀ p, Ak.F (pb p) = (Ak.G p).2 := by rw [hAk]; exact fun p => rfl
  rw [← hAk] at PF
  have P0 := PF w5 (grown_low (Below.refl _ _))
  have FA := fin_all P0 tol tb0 (by rw [hAk]; exact HM)
  obtain ⟨FN, hFN⟩ : ∃ z, z = fin Ak ⟨a1, a2, a3, d1, d2, d3⟩ tol := ⟨_, rfl⟩
  have LC := lc_of P0 FA.2.1 FA.2.2
  have hlm := FA.2.2.lo1
  have PV1 := prv_one FA.2.2 hpt
  obtain ⟨f, hf⟩ : ∃ f : Nat, (f : Int) = np ⟨a1, a2, a3, d1, d2, d3⟩ := ⟨(np ⟨a1, a2, a3, d1, d2, d3⟩).toNat, by have := np_pos rv; omega⟩
  obtain ⟨c, hc, hcl, hc1⟩ := cert_some P0.good PV1 f _ rv (by omega)
  have hc6 : c.length ≤ 3000 := by omega
  have LP := locate_any P0 tol tb0 (by omega) FA.1 FA.2.1
  rw [← hFN] at LC hlm hc LP
  obtain ⟨AA, hAA⟩ : ∃ z, z = areaF FN.m (pb (FN.x, FN.y, FN.z)) FN.op := ⟨_, rfl⟩
  obtain ⟨lw, hlw⟩ : ∃ z, z = lowF FN.m FN.op := ⟨_, rfl⟩
  rw [← hAA, ← hlw] at LC hc LP
  rw [← hlw] at hlm
  have RD : ∀ t2, tol ≤ t2 → rd Ak (prv Ak FN.m lw AA t2) f ⟨a1, a2, a3, d1, d2, d3⟩ c = some [] := fun t2 h2 => by
    have := rd_cert P0.good (pv := prv Ak FN.m lw AA tol) (pv' := prv Ak FN.m lw AA t2) (fun B _ hv => prv_mono h2 B hv) f _ rv (by omega) c hc []
    simpa using this
  have MK := fun (w' : World) (h' : w5.grownBy w' (some w.heap.size)) => make_top (PF w' h') LC hlm tb0 (by omega) f (by omega) hc (by omega)
  have CK := fun (w' : World) (h' : w5.grownBy w' (some w.heap.size)) (t2 : Int) (h2 : tol ≤ t2) (h9 : t2 ≤ 1000) (cv : Value) (cl : List Int) (hv : Lst w' cv cl) (h6 : cl.length ≤ 6001) => check_top (tol := t2) (PF w' h') LC hlm (by omega) (by omega) hv h6 f (by omega)
  replace RD := Lib.hid RD
  replace MK := Lib.hid MK
  replace CK := Lib.hid CK
  replace LP := Lib.hid LP
  obtain ⟨cd, hcd⟩ := cert_last f _ _ hc
  replace hcd := Lib.hid hcd
  clear hc
  have BX : Hid (Below w5.heap.size w5 w5) := Lib.hid (Below.refl _ _)
  clear hR hSP n9 c9 c0 rv few phs n1 PF HM hAk P0 FA hFN hAA hlw LC hlm PV1 hf hcl hpt W5 R5 gb1 gb2 gbp
  go_upto_region 5 with (first | ((with_reducible refine Mid.ldr 33 (.tmp 4) p4 33 #[.int .i64 a1, .int .i64 a2, .int .i64 a3, .int .i64 d1, .int .i64 d2, .int .i64 d3, .int .i64 s, .slice (some ⟨b1, 0, none⟩) n c1, .slice (some ⟨b2, 0, none⟩) n c2, .slice (some ⟨gp0, 0, none⟩) nl cpp, .int .i64 cp] K5.out ?_ ?_ ?_ ?_ ?_ ?_); (· rfl); (· rfl); (· first | rfl | simp [Act.eval]); (· exact ⟨_, rfl, rfl⟩); (· kernel_rfl)) | (go_at_call 18; refine LP.out.mono ?_; rintro e w6 ⟨rfl, b6⟩) | ((with_reducible refine Mid.str 37 (.tmp 6) (.tmp 25) w6.heap.size 37 #[.int .i64 0, .int .i64 0, .int .i64 0, .int .i64 0, .int .i64 0, .int .i64 0, .int .i64 0, .int .i64 0, .int .i64 0, .int .i64 0, .int .i64 0, .int .i64 0] (lrow FN lw AA).toArray (heap_alloc_new w6 _) ?_ ?_ ?_ ?_ ?_ ?_ ?_ ?_); (· rfl); (· rfl); (· first | rfl | simp [Act.eval]); (· first | rfl | simp [Act.eval]); (· kernel_rfl); (· rfl); (· simp [lrow, Value.oneCell'])))
  try simp only [Act.put]
  have NN : Below w6.heap.size w6 ((w6.alloc (.cells #[.int .i64 0, .int .i64 0, .int .i64 0, .int .i64 0, .int .i64 0, .int .i64 0, .int .i64 0, .int .i64 0, .int .i64 0, .int .i64 0, .int .i64 0, .int .i64 0] 37)).setRow w6.heap.size (lrow FN lw AA).toArray) := Mid.below_row (Mis.new_block _) _ _ (Nat.le_refl _)
  have K6 := Lib.hid (show ((w6.alloc (.cells #[.int .i64 0, .int .i64 0, .int .i64 0, .int .i64 0, .int .i64 0, .int .i64 0, .int .i64 0, .int .i64 0, .int .i64 0, .int .i64 0, .int .i64 0, .int .i64 0] 37)).setRow w6.heap.size (lrow FN lw AA).toArray).heap[w6.heap.size]? = some (.cells (lrow FN lw AA).toArray 37 (0, 0)) from setRow_heap _ _ _ _ _ _ (heap_alloc_new w6 _))
  obtain ⟨w7, hw7⟩ : ∃ z, z = (w6.alloc (.cells #[.int .i64 0, .int .i64 0, .int .i64 0, .int .i64 0, .int .i64 0, .int .i64 0, .int .i64 0, .int .i64 0, .int .i64 0, .int .i64 0, .int .i64 0, .int .i64 0] 37)).setRow w6.heap.size (lrow FN lw AA).toArray := ⟨_, rfl⟩
  rw [← hw7] at NN K6 ⊢
  obtain ⟨p6, hp6⟩ : ∃ z, z = w6.heap.size := ⟨_, rfl⟩
  have p6g : w.heap.size ≠ p6 := by have := b6.size; have := D5.out.lt; omega
  rw [← hp6] at K6 ⊢
  have B7 := Lib.hid (Buf.then_ b6 NN)
  have K7 := Lib.hid (Mis.hb B7.out K5.out)
  have g7 : w.heap.size < w7.heap.size := by have := B7.out.size; have := D5.out.lt; omega
  clear hw7 hp6 NN b6 K5 LP BX
  go_upto_region 6 with (first | ((with_reducible refine Mid.ldr 33 (.tmp 4) p4 33 #[.int .i64 a1, .int .i64 a2, .int .i64 a3, .int .i64 d1, .int .i64 d2, .int .i64 d3, .int .i64 s, .slice (some ⟨b1, 0, none⟩) n c1, .slice (some ⟨b2, 0, none⟩) n c2, .slice (some ⟨gp0, 0, none⟩) nl cpp, .int .i64 cp] K7.out ?_ ?_ ?_ ?_ ?_ ?_); (· rfl); (· rfl); (· first | rfl | simp [Act.eval]); (· exact ⟨_, rfl, rfl⟩); (· kernel_rfl)) | ((with_reducible refine Mid.ldr 37 (.tmp 6) p6 37 (lrow FN lw AA).toArray K6.out ?_ ?_ ?_ ?_ ?_ ?_); (· rfl); (· rfl); (· first | rfl | simp [Act.eval]); (· exact ⟨_, rfl, rfl⟩); (· kernel_rfl)) | (go_at_call 20; refine (MK.out _ (grown_low B7.out)).mono ?_; rintro e w8 ⟨v, rfl, ho, b8⟩; obtain ⟨gC, cc, rfl, hcc, hcm, hgl, hgB, hcell⟩ := lst_of_own ho (by omega); clear ho))
  have K8 := Lib.hid (Mis.hb b8 K7.out)
  have K9 := Lib.hid (Mis.hb b8 K6.out)
  have B8 := Lib.hid (Buf.then_ B7.out b8)
  have D8 := Lib.hid (D5.out.below B8.out)
  have gCg : gC ≠ w.heap.size := by omega
  replace hcell := Lib.hid hcell
  clear K6 K7 B7 b8 MK D5
  have c1i : (1 : Int) ≤ (c.length : Int) := by omega
  have e0 : ((c.length : Int) == 0) = false := by rw [beq_eq_false_iff_ne]; omega
  go_wp2_with fail
  refine (Src.n_any (c.length : Int) D8.out c1i (by omega)).mono ?_
  rintro e w9 ⟨⟨k0, rfl, u0, u9⟩, hl⟩
  have K10 := Lib.hid (hl.blk K8.out (Ne.symm p4g))
  have K11 := Lib.hid (hl.blk K9.out (Ne.symm p6g))
  have G9 := Lib.hid ((grown_low (r := some w.heap.size) B8.out).trans hl.far)
  have gCl : gC < w9.heap.size := Nat.lt_of_lt_of_le hgl hl.far.size
  have CE : Hid (∀ j (h : j < c.length), w9.cell? ⟨gC, 0 + j, none⟩ = some (.int .i64 c[j])) := Lib.hid fun j hj => by
    rw [World.cell?_of_block (a := ⟨gC, 0 + j, none⟩) (hl.far.block gC hgl (fun e => gCg (by cases e; rfl)))]; exact hcell.out j hj
  have BD := Lib.hid hl.di.bel
  obtain ⟨kn, hkn⟩ : ∃ kn : Nat, (kn : Int) = k0 := ⟨k0.toNat, by omega⟩
  rw [← hkn] at u9 ⊢
  have hk9 : kn < c.length := by omega
  clear hl K8 K9 B8 D8 hcell hkn u0 u9 e0
  go_wp2_with fail
  go_loopw [10] (fun u wr => ∃ k : Nat, u = .int .i64 (k : Int) ∧ k < c.length ∧ Hid (wr = w9)) (fun u _ => c.length - (intOf u).toNat)
  case atStart => exact ⟨kn, rfl, hk9, Lib.hid rfl⟩
  case round =>
    obtain ⟨k, rfl, hk, hwr⟩ := hrel
    have k1 : (k : Int) < (c.length : Int) := by omega
    have k2 : (c.length : Int) ≤ (cc : Int) := by omega
    have ck : wr.cell? ⟨gC, k, none⟩ = some (.int .i64 c[k]) := by rw [hwr.out]; have := CE.out k hk; rwa [Nat.zero_add] at this
    obtain ⟨v, hv⟩ : ∃ v, v = c[k] := ⟨_, rfl⟩
    rw [← hv] at ck
    replace hv := Lib.hid hv
    by_cases h0 : v = 0
    · subst h0
      have hw9 := hwr.out
      subst hw9
      have hk0 : c[k] = 0 := hv.out.symm
      have e2 : ((k : Int) == (c.length : Int)) = false := by rw [beq_eq_false_iff_ne]; omega
      have k3 : (k : Int) + 1 ≤ (c.length : Int) := by omega
      have k4 : (k : Int) ≤ (cc : Int) := by omega
      go_upto_region 13 with fail
      obtain ⟨i0, hi0, hz0, hz1, hz2⟩ : ∃ i, Try.prog.info? 3 = some i ∧ i.zero = some (.int .i64 0) ∧ i.size = 1 ∧ i.bytes = 8 := ⟨_, rfl, by kernel_rfl, by kernel_rfl, by kernel_rfl⟩
      have e5 : IntKind.i64.wrap ((k : Int) + 1) = (k : Int) + 1 := IntWalk.i64_in _ (by omega)
      have e6 : (0 : Int) ≤ (k : Int) + 1 := by omega
      have CEw : Hid (∀ w', Below wr.heap.size wr w' → ∀ j (h : j < c.length), w'.cell? ⟨gC, 0 + j, none⟩ = some (.int .i64 c[j])) := Lib.hid fun w' h' j hj => by
        rw [h'.cell (p := ⟨gC, 0 + j, none⟩) gCl]; exact CE.out j hj
      have SRC1 := Lib.hid fun (w' : World) (h' : Below wr.heap.size wr w') => src_take (cc := cc) (CEw.out w' h') hk
      have SRC2 := Lib.hid fun (w' : World) (h' : Below wr.heap.size wr w') => src_drop (CEw.out w' h') hk hcc
      obtain ⟨ad2, had2⟩ : ∃ z : Option Addr, z = if cc = k + 1 then some ⟨gC, 0, none⟩ else some ⟨gC, k + 1, none⟩ := ⟨_, rfl⟩
      rw [← had2] at SRC2
      replace had2 := Lib.hid had2
      go_cut [11] (fun v11 wx => ∃ (wy : World) (ra : Option Addr) (rm rc : Nat), wy = wx ∧ v11 = .slice ra rm rc ∧ Hid (Buf.Own wr.heap.size wy (.slice ra rm rc) (iv (c.take k ++ [1, 0, 0] ++ c.drop (k + 1)))) ∧ Hid (Below wr.heap.size wr wy))
      case first =>
        refine wp_region_noPanic ?_
        refine wp_region_any (by kernel_rfl) ?_
        obtain ⟨wx, hwx⟩ : ∃ z : World, z = { heap := wr.heap, tape := wr.tape, drawn := wr.drawn + 1, os := wr.os, output := wr.output } := ⟨_, rfl⟩
        have BX : Hid (Below wr.heap.size wr wx) := Lib.hid (by rw [hwx]; exact (Below.refl _ _).drew)
        rw [← hwx]
        clear hwx
        refine Inv.take (i := 1) (v := .slice (some ⟨gC, 0, none⟩) c.length cc) (by decide) rfl (by kernel_rfl) (by kernel_rfl) (by kernel_rfl) (fun _ _ _ h => h) (by rfl) (fun w' => ?_) ?_
        · simp only [List.getElem_toArray, List.getElem_cons_zero, List.getElem_cons_succ]
          go_simp
        try simp only [Act.put, List.setIfInBounds_toArray, List.set_cons_zero, List.set_cons_succ]
        refine Inv.take (i := 2) (v := .int .i64 (k : Int)) (by decide) rfl (by kernel_rfl) (by kernel_rfl) (by kernel_rfl) (fun _ _ _ h => h) (by rfl) (fun w' => ?_) ?_
        · simp only [List.getElem_toArray, List.getElem_cons_zero, List.getElem_cons_succ]
          go_simp
        try simp only [Act.put, List.setIfInBounds_toArray, List.set_cons_zero, List.set_cons_succ]
        refine Inv.take (i := 3) (v := .slice (some ⟨gC, 0, none⟩) k cc) (by decide) rfl (by kernel_rfl) (by kernel_rfl) (by kernel_rfl) (fun _ _ _ h => h) (by rfl) (fun w' => ?_) ?_
        · simp only [List.getElem_toArray, List.getElem_cons_zero, List.getElem_cons_succ]
          go_simp
        try simp only [Act.put, List.setIfInBounds_toArray, List.set_cons_zero, List.set_cons_succ]
        refine Inv.take (i := 7) (v := .slice (some ⟨gC, 0, none⟩) c.length cc) (by decide) rfl (by kernel_rfl) (by kernel_rfl) (by kernel_rfl) (fun _ _ _ h => h) (by rfl) (fun w' => ?_) ?_
        · simp only [List.getElem_toArray, List.getElem_cons_zero, List.getElem_cons_succ]
          go_simp
        try simp only [Act.put, List.setIfInBounds_toArray, List.set_cons_zero, List.set_cons_succ]
        refine Inv.take (i := 8) (v := .int .i64 (k : Int)) (by decide) rfl (by kernel_rfl) (by kernel_rfl) (by kernel_rfl) (fun _ _ _ h => h) (by rfl) (fun w' => ?_) ?_
        · simp only [List.getElem_toArray, List.getElem_cons_zero, List.getElem_cons_succ]
          go_simp
        try simp only [Act.put, List.setIfInBounds_toArray, List.set_cons_zero, List.set_cons_succ]
        refine Inv.take (i := 9) (v := .int .i64 ((k : Int) + 1)) (by decide) rfl (by kernel_rfl) (by kernel_rfl) (by kernel_rfl) (fun _ _ _ h => h) (by rfl) (fun w' => ?_) ?_
        · simp only [List.getElem_toArray, List.getElem_cons_zero, List.getElem_cons_succ]
          go_simp
        try simp only [Act.put, List.setIfInBounds_toArray, List.set_cons_zero, List.set_cons_succ]
        refine Inv.take (i := 10) (v := .slice ad2 (c.length - (k + 1)) (cc - (k + 1))) (by decide) rfl (by kernel_rfl) (by kernel_rfl) (by kernel_rfl) (fun _ _ _ h => h) (by rfl) (fun w' => ?_) ?_
        · simp only [List.getElem_toArray, List.getElem_cons_zero, List.getElem_cons_succ]
          go_simp
          rw [had2.out]
        try simp only [Act.put, List.setIfInBounds_toArray, List.set_cons_zero, List.set_cons_succ]
        refine Inv.pair (i := 0) (k := 5) (by decide) (by decide) (by kernel_rfl) (by rfl) (by rfl) (fun K hK => ?_) (fun K hK => ?_)
        · simp only [List.getElem_toArray, List.getElem_cons_zero, List.getElem_cons_succ, Act.put, List.setIfInBounds_toArray, List.set_cons_zero, List.set_cons_succ] at hK ⊢
          go_simp
          refine hK.out _ _ ?_
          clear hK K
          try simp only [Act.put, List.setIfInBounds_toArray, List.set_cons_zero, List.set_cons_succ]
          have B1 := Lib.hid (BX.out.alloc BX.out.size (.cells #[] 3))
          have O1 : Hid (Buf.Own wr.heap.size (wx.alloc (.cells #[] 3)) (.slice (some ⟨wx.heap.size, 0, none⟩) 0 0) (iv [])) := Lib.hid ((Buf.own_lit wx 3 [] (by decide)).mono BX.out.size)
          obtain ⟨y1, hy1⟩ : ∃ z, z = wx.alloc (.cells #[] 3) := ⟨_, rfl⟩
          have sy1 : wx.heap.size + 1 = y1.heap.size := by rw [hy1]; simp
          rw [← hy1] at B1 O1 ⊢
          obtain ⟨e1, he1⟩ : ∃ z, z = wx.heap.size := ⟨_, rfl⟩
          have ge1 : wx.heap.size ≤ e1 := by omega
          have le1 : e1 < y1.heap.size := by omega
          rw [← he1] at O1 ⊢
          clear hy1 he1 sy1
          refine Inv.pair (i := 4) (k := 5) (by decide) (by decide) (by kernel_rfl) (by rfl) (by rfl) (fun K hK => ?_) (fun K hK => ?_)
          · simp only [List.getElem_toArray, List.getElem_cons_zero, List.getElem_cons_succ, Act.put, List.setIfInBounds_toArray, List.set_cons_zero, List.set_cons_succ] at hK ⊢
            refine wp_app (.tmp 66) (.tmp 69) 22 22 rfl 3 i0 (.int .i64 0) 8 Try.underlying22 hi0 hz0 hz1 hz2 rfl rfl O1.out B1.out.size (.slice (some ⟨gC, 0, none⟩) k cc) k (iv (c.take k)) rfl (SRC1.out y1 B1.out) (by rw [iv_len]; unfold maxLen; simp; omega) (by rw [iv_len]; simp; omega) ?_
            intro v2 y2 ho hg
            have B2 := Lib.hid (Buf.below_grown B1.out O1.out B1.out.size hg)
            rw [← iv_app] at ho
            rw [List.nil_append] at ho
            obtain ⟨v2a, v2m, v2c, rfl, hv2⟩ := own_form ho
            have O2 := Lib.hid ho
            refine hK.out _ _ ?_
            clear hK K ho hg
            try simp only [Act.put, List.setIfInBounds_toArray, List.set_cons_zero, List.set_cons_succ]
            refine Inv.one (i := 5) (by decide) (by kernel_rfl) (by rfl) (fun K hK => ?_)
            simp only [List.getElem_toArray, List.getElem_cons_zero, List.getElem_cons_succ, Act.put, List.setIfInBounds_toArray, List.set_cons_zero, List.set_cons_succ] at hK ⊢
            go_simp
            refine hK.out _ _ ?_
            clear hK K
            try simp only [Act.put, List.setIfInBounds_toArray, List.set_cons_zero, List.set_cons_succ]
            have B3 := Lib.hid (B2.out.alloc B2.out.size (.cells #[.int .i64 1, .int .i64 0, .int .i64 0] 3))
            have L3 := Lib.hid (heap_alloc_new y2 (.cells #[.int .i64 1, .int .i64 0, .int .i64 0] 3))
            have O3 := Lib.hid (O2.out.alloc (.cells #[.int .i64 1, .int .i64 0, .int .i64 0] 3))
            obtain ⟨y3, hy3⟩ : ∃ z, z = y2.alloc (.cells #[.int .i64 1, .int .i64 0, .int .i64 0] 3) := ⟨_, rfl⟩
            have sy3 : y2.heap.size + 1 = y3.heap.size := by rw [hy3]; simp
            rw [← hy3] at B3 L3 O3 ⊢
            obtain ⟨e3, he3⟩ : ∃ z, z = y2.heap.size := ⟨_, rfl⟩
            have ge3 : y2.heap.size ≤ e3 := by omega
            have le3 : e3 < y3.heap.size := by omega
            rw [← he3] at L3 ⊢
            clear hy3 he3 sy3
            refine Inv.one (i := 6) (by decide) (by kernel_rfl) (by rfl) (fun K hK => ?_)
            simp only [List.getElem_toArray, List.getElem_cons_zero, List.getElem_cons_succ, Act.put, List.setIfInBounds_toArray, List.set_cons_zero, List.set_cons_succ] at hK ⊢
            refine wp_app (.tmp 70) (.tmp 71) 22 22 rfl 3 i0 (.int .i64 0) 8 Try.underlying22 hi0 hz0 hz1 hz2 rfl rfl O3.out B3.out.size (.slice (some ⟨e3, 0, none⟩) 3 3) 3 (iv [1, 0, 0]) rfl (src_lit (l := [1, 0, 0]) L3.out) (by rw [iv_len]; unfold maxLen; simp; omega) (by rw [iv_len]; simp; omega) ?_
            intro v4 y4 ho hg
            have B4 := Lib.hid (Buf.below_grown B3.out O3.out B3.out.size hg)
            rw [← iv_app] at ho
            obtain ⟨v4a, v4m, v4c, rfl, hv4⟩ := own_form ho
            have O4 := Lib.hid ho
            refine hK.out _ _ ?_
            clear hK K ho hg
            try simp only [Act.put, List.setIfInBounds_toArray, List.set_cons_zero, List.set_cons_succ]
            refine Inv.one (i := 11) (by decide) (by kernel_rfl) (by rfl) (fun K hK => ?_)
            simp only [List.getElem_toArray, List.getElem_cons_zero, List.getElem_cons_succ, Act.put, List.setIfInBounds_toArray, List.set_cons_zero, List.set_cons_succ] at hK ⊢
            refine wp_app (.tmp 72) (.tmp 76) 22 22 rfl 3 i0 (.int .i64 0) 8 Try.underlying22 hi0 hz0 hz1 hz2 rfl rfl O4.out B4.out.size (.slice ad2 (c.length - (k + 1)) (cc - (k + 1))) (c.length - (k + 1)) (iv (c.drop (k + 1))) rfl (SRC2.out y4 B4.out) (by rw [iv_len]; unfold maxLen; simp; omega) (by rw [iv_len]; simp; omega) ?_
            intro v5 y5 ho hg
            have B5 := Lib.hid (Buf.below_grown B4.out O4.out B4.out.size hg)
            rw [← iv_app] at ho
            obtain ⟨v5a, v5m, v5c, rfl, hv5⟩ := own_form ho
            have O5 := Lib.hid ho
            refine hK.out _ _ ?_
            clear hK K ho hg
            try simp only [Act.put, List.setIfInBounds_toArray, List.set_cons_zero, List.set_cons_succ]
            refine Inv.take (i := 12) (v := .slice v5a v5m v5c) (by decide) rfl (by kernel_rfl) (by kernel_rfl) (by kernel_rfl) (fun _ _ _ h => h) (by rfl) (fun w' => ?_) ?_
            · simp only [List.getElem_toArray, List.getElem_cons_zero, List.getElem_cons_succ]
              go_simp
            try simp only [Act.put, List.setIfInBounds_toArray, List.set_cons_zero, List.set_cons_succ]
            refine Inv.done (by kernel_rfl) (NoPanic.normal ?_)
            have OF := O5
            have BF := B5
            go_wp2_with fail
            go_meet
            exact ⟨_, v5a, v5m, v5c, rfl, rfl, OF, BF⟩
          · simp only [List.getElem_toArray, List.getElem_cons_zero, List.getElem_cons_succ, Act.put, List.setIfInBounds_toArray, List.set_cons_zero, List.set_cons_succ] at hK ⊢
            go_simp
            refine hK.out _ _ ?_
            clear hK K
            try simp only [Act.put, List.setIfInBounds_toArray, List.set_cons_zero, List.set_cons_succ]
            have B6 := Lib.hid (B1.out.alloc B1.out.size (.cells #[.int .i64 1, .int .i64 0, .int .i64 0] 3))
            have L6 := Lib.hid (heap_alloc_new y1 (.cells #[.int .i64 1, .int .i64 0, .int .i64 0] 3))
            have O6 := Lib.hid (O1.out.alloc (.cells #[.int .i64 1, .int .i64 0, .int .i64 0] 3))
            obtain ⟨y6, hy6⟩ : ∃ z, z = y1.alloc (.cells #[.int .i64 1, .int .i64 0, .int .i64 0] 3) := ⟨_, rfl⟩
            have sy6 : y1.heap.size + 1 = y6.heap.size := by rw [hy6]; simp
            rw [← hy6] at B6 L6 O6 ⊢
            obtain ⟨e6, he6⟩ : ∃ z, z = y1.heap.size := ⟨_, rfl⟩
            have ge6 : y1.heap.size ≤ e6 := by omega
            have le6 : e6 < y6.heap.size := by omega
            rw [← he6] at L6 ⊢
            clear hy6 he6 sy6
            refine Inv.one (i := 4) (by decide) (by kernel_rfl) (by rfl) (fun K hK => ?_)
            simp only [List.getElem_toArray, List.getElem_cons_zero, List.getElem_cons_succ, Act.put, List.setIfInBounds_toArray, List.set_cons_zero, List.set_cons_succ] at hK ⊢
            refine wp_app (.tmp 66) (.tmp 69) 22 22 rfl 3 i0 (.int .i64 0) 8 Try.underlying22 hi0 hz0 hz1 hz2 rfl rfl O6.out B6.out.size (.slice (some ⟨gC, 0, none⟩) k cc) k (iv (c.take k)) rfl (SRC1.out y6 B6.out) (by rw [iv_len]; unfold maxLen; simp; omega) (by rw [iv_len]; simp; omega) ?_
            intro v7 y7 ho hg
            have B7 := Lib.hid (Buf.below_grown B6.out O6.out B6.out.size hg)
            rw [← iv_app] at ho
            rw [List.nil_append] at ho
            have L7 := Lib.hid (keep_blk L6.out hg (by omega))
            obtain ⟨v7a, v7m, v7c, rfl, hv7⟩ := own_form ho
            have O7 := Lib.hid ho
            refine hK.out _ _ ?_
            clear hK K ho hg
            try simp only [Act.put, List.setIfInBounds_toArray, List.set_cons_zero, List.set_cons_succ]
            refine Inv.one (i := 6) (by decide) (by kernel_rfl) (by rfl) (fun K hK => ?_)
            simp only [List.getElem_toArray, List.getElem_cons_zero, List.getElem_cons_succ, Act.put, List.setIfInBounds_toArray, List.set_cons_zero, List.set_cons_succ] at hK ⊢
            refine wp_app (.tmp 70) (.tmp 71) 22 22 rfl 3 i0 (.int .i64 0) 8 Try.underlying22 hi0 hz0 hz1 hz2 rfl rfl O7.out B7.out.size (.slice (some ⟨e6, 0, none⟩) 3 3) 3 (iv [1, 0, 0]) rfl (src_lit (l := [1, 0, 0]) L7.out) (by rw [iv_len]; unfold maxLen; simp; omega) (by rw [iv_len]; simp; omega) ?_
            intro v8 y8 ho hg
            have B8 := Lib.hid (Buf.below_grown B7.out O7.out B7.out.size hg)
            rw [← iv_app] at ho
            obtain ⟨v8a, v8m, v8c, rfl, hv8⟩ := own_form ho
            have O8 := Lib.hid ho
            refine hK.out _ _ ?_
            clear hK K ho hg
            try simp only [Act.put, List.setIfInBounds_toArray, List.set_cons_zero, List.set_cons_succ]
            refine Inv.one (i := 11) (by decide) (by kernel_rfl) (by rfl) (fun K hK => ?_)
            simp only [List.getElem_toArray, List.getElem_cons_zero, List.getElem_cons_succ, Act.put, List.setIfInBounds_toArray, List.set_cons_zero, List.set_cons_succ] at hK ⊢
            refine wp_app (.tmp 72) (.tmp 76) 22 22 rfl 3 i0 (.int .i64 0) 8 Try.underlying22 hi0 hz0 hz1 hz2 rfl rfl O8.out B8.out.size (.slice ad2 (c.length - (k + 1)) (cc - (k + 1))) (c.length - (k + 1)) (iv (c.drop (k + 1))) rfl (SRC2.out y8 B8.out) (by rw [iv_len]; unfold maxLen; simp; omega) (by rw [iv_len]; simp; omega) ?_
            intro v9 y9 ho hg
            have B9 := Lib.hid (Buf.below_grown B8.out O8.out B8.out.size hg)
            rw [← iv_app] at ho
            obtain ⟨v9a, v9m, v9c, rfl, hv9⟩ := own_form ho
            have O9 := Lib.hid ho
            refine hK.out _ _ ?_
            clear hK K ho hg
            try simp only [Act.put, List.setIfInBounds_toArray, List.set_cons_zero, List.set_cons_succ]
            refine Inv.take (i := 12) (v := .slice v9a v9m v9c) (by decide) rfl (by kernel_rfl) (by kernel_rfl) (by kernel_rfl) (fun _ _ _ h => h) (by rfl) (fun w' => ?_) ?_
            · simp only [List.getElem_toArray, List.getElem_cons_zero, List.getElem_cons_succ]
              go_simp
            try simp only [Act.put, List.setIfInBounds_toArray, List.set_cons_zero, List.set_cons_succ]
            refine Inv.done (by kernel_rfl) (NoPanic.normal ?_)
            have OF := O9
            have BF := B9
            go_wp2_with fail
            go_meet
            exact ⟨_, v9a, v9m, v9c, rfl, rfl, OF, BF⟩
        · simp only [List.getElem_toArray, List.getElem_cons_zero, List.getElem_cons_succ, Act.put, List.setIfInBounds_toArray, List.set_cons_zero, List.set_cons_succ] at hK ⊢
          go_simp
          refine hK.out _ _ ?_
          clear hK K
          try simp only [Act.put, List.setIfInBounds_toArray, List.set_cons_zero, List.set_cons_succ]
          have B10 := Lib.hid (BX.out.alloc BX.out.size (.cells #[.int .i64 1, .int .i64 0, .int .i64 0] 3))
          have L10 := Lib.hid (heap_alloc_new wx (.cells #[.int .i64 1, .int .i64 0, .int .i64 0] 3))
          obtain ⟨y10, hy10⟩ : ∃ z, z = wx.alloc (.cells #[.int .i64 1, .int .i64 0, .int .i64 0] 3) := ⟨_, rfl⟩
          have sy10 : wx.heap.size + 1 = y10.heap.size := by rw [hy10]; simp
          rw [← hy10] at B10 L10 ⊢
          obtain ⟨e10, he10⟩ : ∃ z, z = wx.heap.size := ⟨_, rfl⟩
          have ge10 : wx.heap.size ≤ e10 := by omega
          have le10 : e10 < y10.heap.size := by omega
          rw [← he10] at L10 ⊢
          clear hy10 he10 sy10
          refine Inv.one (i := 0) (by decide) (by kernel_rfl) (by rfl) (fun K hK => ?_)
          simp only [List.getElem_toArray, List.getElem_cons_zero, List.getElem_cons_succ, Act.put, List.setIfInBounds_toArray, List.set_cons_zero, List.set_cons_succ] at hK ⊢
          go_simp
          refine hK.out _ _ ?_
          clear hK K
          try simp only [Act.put, List.setIfInBounds_toArray, List.set_cons_zero, List.set_cons_succ]
          have B11 := Lib.hid (B10.out.alloc B10.out.size (.cells #[] 3))
          have O11 : Hid (Buf.Own wr.heap.size (y10.alloc (.cells #[] 3)) (.slice (some ⟨y10.heap.size, 0, none⟩) 0 0) (iv [])) := Lib.hid ((Buf.own_lit y10 3 [] (by decide)).mono B10.out.size)
          have L11 := Lib.hid (Mis.hb (Mis.new_block (w := y10) (.cells #[] 3)) L10.out)
          obtain ⟨y11, hy11⟩ : ∃ z, z = y10.alloc (.cells #[] 3) := ⟨_, rfl⟩
          have sy11 : y10.heap.size + 1 = y11.heap.size := by rw [hy11]; simp
          rw [← hy11] at B11 O11 L11 ⊢
          obtain ⟨e11, he11⟩ : ∃ z, z = y10.heap.size := ⟨_, rfl⟩
          have ge11 : y10.heap.size ≤ e11 := by omega
          have le11 : e11 < y11.heap.size := by omega
          rw [← he11] at O11 ⊢
          clear hy11 he11 sy11
          refine Inv.one (i := 4) (by decide) (by kernel_rfl) (by rfl) (fun K hK => ?_)
          simp only [List.getElem_toArray, List.getElem_cons_zero, List.getElem_cons_succ, Act.put, List.setIfInBounds_toArray, List.set_cons_zero, List.set_cons_succ] at hK ⊢
          refine wp_app (.tmp 66) (.tmp 69) 22 22 rfl 3 i0 (.int .i64 0) 8 Try.underlying22 hi0 hz0 hz1 hz2 rfl rfl O11.out B11.out.size (.slice (some ⟨gC, 0, none⟩) k cc) k (iv (c.take k)) rfl (SRC1.out y11 B11.out) (by rw [iv_len]; unfold maxLen; simp; omega) (by rw [iv_len]; simp; omega) ?_
          intro v12 y12 ho hg
          have B12 := Lib.hid (Buf.below_grown B11.out O11.out B11.out.size hg)
          rw [← iv_app] at ho
          rw [List.nil_append] at ho
          have L12 := Lib.hid (keep_blk L11.out hg (by omega))
          obtain ⟨v12a, v12m, v12c, rfl, hv12⟩ := own_form ho
          have O12 := Lib.hid ho
          refine hK.out _ _ ?_
          clear hK K ho hg
          try simp only [Act.put, List.setIfInBounds_toArray, List.set_cons_zero, List.set_cons_succ]
          refine Inv.one (i := 6) (by decide) (by kernel_rfl) (by rfl) (fun K hK => ?_)
          simp only [List.getElem_toArray, List.getElem_cons_zero, List.getElem_cons_succ, Act.put, List.setIfInBounds_toArray, List.set_cons_zero, List.set_cons_succ] at hK ⊢
          refine wp_app (.tmp 70) (.tmp 71) 22 22 rfl 3 i0 (.int .i64 0) 8 Try.underlying22 hi0 hz0 hz1 hz2 rfl rfl O12.out B12.out.size (.slice (some ⟨e10, 0, none⟩) 3 3) 3 (iv [1, 0, 0]) rfl (src_lit (l := [1, 0, 0]) L12.out) (by rw [iv_len]; unfold maxLen; simp; omega) (by rw [iv_len]; simp; omega) ?_
          intro v13 y13 ho hg
          have B13 := Lib.hid (Buf.below_grown B12.out O12.out B12.out.size hg)
          rw [← iv_app] at ho
          obtain ⟨v13a, v13m, v13c, rfl, hv13⟩ := own_form ho
          have O13 := Lib.hid ho
          refine hK.out _ _ ?_
          clear hK K ho hg
          try simp only [Act.put, List.setIfInBounds_toArray, List.set_cons_zero, List.set_cons_succ]
          refine Inv.one (i := 11) (by decide) (by kernel_rfl) (by rfl) (fun K hK => ?_)
          simp only [List.getElem_toArray, List.getElem_cons_zero, List.getElem_cons_succ, Act.put, List.setIfInBounds_toArray, List.set_cons_zero, List.set_cons_succ] at hK ⊢
          refine wp_app (.tmp 72) (.tmp 76) 22 22 rfl 3 i0 (.int .i64 0) 8 Try.underlying22 hi0 hz0 hz1 hz2 rfl rfl O13.out B13.out.size (.slice ad2 (c.length - (k + 1)) (cc - (k + 1))) (c.length - (k + 1)) (iv (c.drop (k + 1))) rfl (SRC2.out y13 B13.out) (by rw [iv_len]; unfold maxLen; simp; omega) (by rw [iv_len]; simp; omega) ?_
          intro v14 y14 ho hg
          have B14 := Lib.hid (Buf.below_grown B13.out O13.out B13.out.size hg)
          rw [← iv_app] at ho
          obtain ⟨v14a, v14m, v14c, rfl, hv14⟩ := own_form ho
          have O14 := Lib.hid ho
          refine hK.out _ _ ?_
          clear hK K ho hg
          try simp only [Act.put, List.setIfInBounds_toArray, List.set_cons_zero, List.set_cons_succ]
          refine Inv.take (i := 12) (v := .slice v14a v14m v14c) (by decide) rfl (by kernel_rfl) (by kernel_rfl) (by kernel_rfl) (fun _ _ _ h => h) (by rfl) (fun w' => ?_) ?_
          · simp only [List.getElem_toArray, List.getElem_cons_zero, List.getElem_cons_succ]
            go_simp
          try simp only [Act.put, List.setIfInBounds_toArray, List.set_cons_zero, List.set_cons_succ]
          refine Inv.done (by kernel_rfl) (NoPanic.normal ?_)
          have OF := O14
          have BF := B14
          go_wp2_with fail
          go_meet
          exact ⟨_, v14a, v14m, v14c, rfl, rfl, OF, BF⟩
      case rest =>
        obtain ⟨wy, ra, rm, rc, ewy, rfl, OW, BW⟩ := hcut
        subst ewy
        have SRC3 := Lib.hid fun (w' : World) (h' : Below wy.heap.size wy w') => SRC1.out w' (BW.out.trans (h'.mono BW.out.size))
        have SRC4 := Lib.hid fun (w' : World) (h' : Below wy.heap.size wy w') => SRC2.out w' (BW.out.trans (h'.mono BW.out.size))
        clear SRC1 SRC2
        go_upto_region 14 with fail
        refine wp_region_noPanic ?_
        refine wp_region_any (by kernel_rfl) ?_
        obtain ⟨wx, hwx⟩ : ∃ z : World, z = { heap := wy.heap, tape := wy.tape, drawn := wy.drawn + 1, os := wy.os, output := wy.output } := ⟨_, rfl⟩
        have BX : Hid (Below wy.heap.size wy wx) := Lib.hid (by rw [hwx]; exact (Below.refl _ _).drew)
        rw [← hwx]
        clear hwx
        refine Inv.take (i := 1) (v := .slice (some ⟨gC, 0, none⟩) c.length cc) (by decide) rfl (by kernel_rfl) (by kernel_rfl) (by kernel_rfl) (fun _ _ _ h => h) (by rfl) (fun w' => ?_) ?_
        · simp only [List.getElem_toArray, List.getElem_cons_zero, List.getElem_cons_succ]
          go_simp
        try simp only [Act.put, List.setIfInBounds_toArray, List.set_cons_zero, List.set_cons_succ]
        refine Inv.take (i := 2) (v := .int .i64 (k : Int)) (by decide) rfl (by kernel_rfl) (by kernel_rfl) (by kernel_rfl) (fun _ _ _ h => h) (by rfl) (fun w' => ?_) ?_
        · simp only [List.getElem_toArray, List.getElem_cons_zero, List.getElem_cons_succ]
          go_simp
        try simp only [Act.put, List.setIfInBounds_toArray, List.set_cons_zero, List.set_cons_succ]
        refine Inv.take (i := 3) (v := .slice (some ⟨gC, 0, none⟩) k cc) (by decide) rfl (by kernel_rfl) (by kernel_rfl) (by kernel_rfl) (fun _ _ _ h => h) (by rfl) (fun w' => ?_) ?_
        · simp only [List.getElem_toArray, List.getElem_cons_zero, List.getElem_cons_succ]
          go_simp
        try simp only [Act.put, List.setIfInBounds_toArray, List.set_cons_zero, List.set_cons_succ]
        refine Inv.take (i := 5) (v := .slice (some ⟨gC, 0, none⟩) c.length cc) (by decide) rfl (by kernel_rfl) (by kernel_rfl) (by kernel_rfl) (fun _ _ _ h => h) (by rfl) (fun w' => ?_) ?_
        · simp only [List.getElem_toArray, List.getElem_cons_zero, List.getElem_cons_succ]
          go_simp
        try simp only [Act.put, List.setIfInBounds_toArray, List.set_cons_zero, List.set_cons_succ]
        refine Inv.take (i := 6) (v := .int .i64 (k : Int)) (by decide) rfl (by kernel_rfl) (by kernel_rfl) (by kernel_rfl) (fun _ _ _ h => h) (by rfl) (fun w' => ?_) ?_
        · simp only [List.getElem_toArray, List.getElem_cons_zero, List.getElem_cons_succ]
          go_simp
        try simp only [Act.put, List.setIfInBounds_toArray, List.set_cons_zero, List.set_cons_succ]
        refine Inv.take (i := 7) (v := .int .i64 ((k : Int) + 1)) (by decide) rfl (by kernel_rfl) (by kernel_rfl) (by kernel_rfl) (fun _ _ _ h => h) (by rfl) (fun w' => ?_) ?_
        · simp only [List.getElem_toArray, List.getElem_cons_zero, List.getElem_cons_succ]
          go_simp
        try simp only [Act.put, List.setIfInBounds_toArray, List.set_cons_zero, List.set_cons_succ]
        refine Inv.take (i := 8) (v := .slice ad2 (c.length - (k + 1)) (cc - (k + 1))) (by decide) rfl (by kernel_rfl) (by kernel_rfl) (by kernel_rfl) (fun _ _ _ h => h) (by rfl) (fun w' => ?_) ?_
        · simp only [List.getElem_toArray, List.getElem_cons_zero, List.getElem_cons_succ]
          go_simp
          rw [had2.out]
        try simp only [Act.put, List.setIfInBounds_toArray, List.set_cons_zero, List.set_cons_succ]
        refine Inv.one (i := 0) (by decide) (by kernel_rfl) (by rfl) (fun K hK => ?_)
        simp only [List.getElem_toArray, List.getElem_cons_zero, List.getElem_cons_succ, Act.put, List.setIfInBounds_toArray, List.set_cons_zero, List.set_cons_succ] at hK ⊢
        go_simp
        refine hK.out _ _ ?_
        clear hK K
        try simp only [Act.put, List.setIfInBounds_toArray, List.set_cons_zero, List.set_cons_succ]
        have B1 := Lib.hid (BX.out.alloc BX.out.size (.cells #[] 3))
        have O1 : Hid (Buf.Own wy.heap.size (wx.alloc (.cells #[] 3)) (.slice (some ⟨wx.heap.size, 0, none⟩) 0 0) (iv [])) := Lib.hid ((Buf.own_lit wx 3 [] (by decide)).mono BX.out.size)
        obtain ⟨y1, hy1⟩ : ∃ z, z = wx.alloc (.cells #[] 3) := ⟨_, rfl⟩
        have sy1 : wx.heap.size + 1 = y1.heap.size := by rw [hy1]; simp
        rw [← hy1] at B1 O1 ⊢
        obtain ⟨e1, he1⟩ : ∃ z, z = wx.heap.size := ⟨_, rfl⟩
        have ge1 : wx.heap.size ≤ e1 := by omega
        have le1 : e1 < y1.heap.size := by omega
        rw [← he1] at O1 ⊢
        clear hy1 he1 sy1
        refine Inv.one (i := 4) (by decide) (by kernel_rfl) (by rfl) (fun K hK => ?_)
        simp only [List.getElem_toArray, List.getElem_cons_zero, List.getElem_cons_succ, Act.put, List.setIfInBounds_toArray, List.set_cons_zero, List.set_cons_succ] at hK ⊢
        refine wp_app (.tmp 78) (.tmp 81) 22 22 rfl 3 i0 (.int .i64 0) 8 Try.underlying22 hi0 hz0 hz1 hz2 rfl rfl O1.out B1.out.size (.slice (some ⟨gC, 0, none⟩) k cc) k (iv (c.take k)) rfl (SRC3.out y1 B1.out) (by rw [iv_len]; unfold maxLen; simp; omega) (by rw [iv_len]; simp; omega) ?_
        intro v2 y2 ho hg
        have B2 := Lib.hid (Buf.below_grown B1.out O1.out B1.out.size hg)
        rw [← iv_app] at ho
        rw [List.nil_append] at ho
        obtain ⟨v2a, v2m, v2c, rfl, hv2⟩ := own_form ho
        have O2 := Lib.hid ho
        refine hK.out _ _ ?_
        clear hK K ho hg
        try simp only [Act.put, List.setIfInBounds_toArray, List.set_cons_zero, List.set_cons_succ]
        refine Inv.one (i := 9) (by decide) (by kernel_rfl) (by rfl) (fun K hK => ?_)
        simp only [List.getElem_toArray, List.getElem_cons_zero, List.getElem_cons_succ, Act.put, List.setIfInBounds_toArray, List.set_cons_zero, List.set_cons_succ] at hK ⊢
        refine wp_app (.tmp 82) (.tmp 86) 22 22 rfl 3 i0 (.int .i64 0) 8 Try.underlying22 hi0 hz0 hz1 hz2 rfl rfl O2.out B2.out.size (.slice ad2 (c.length - (k + 1)) (cc - (k + 1))) (c.length - (k + 1)) (iv (c.drop (k + 1))) rfl (SRC4.out y2 B2.out) (by rw [iv_len]; unfold maxLen; simp; omega) (by rw [iv_len]; simp; omega) ?_
        intro v3 y3 ho hg
        have B3 := Lib.hid (Buf.below_grown B2.out O2.out B2.out.size hg)
        rw [← iv_app] at ho
        obtain ⟨v3a, v3m, v3c, rfl, hv3⟩ := own_form ho
        have O3 := Lib.hid ho
        refine hK.out _ _ ?_
        clear hK K ho hg
        try simp only [Act.put, List.setIfInBounds_toArray, List.set_cons_zero, List.set_cons_succ]
        refine Inv.take (i := 10) (v := .slice v3a v3m v3c) (by decide) rfl (by kernel_rfl) (by kernel_rfl) (by kernel_rfl) (fun _ _ _ h => h) (by rfl) (fun w' => ?_) ?_
        · simp only [List.getElem_toArray, List.getElem_cons_zero, List.getElem_cons_succ]
          go_simp
        try simp only [Act.put, List.setIfInBounds_toArray, List.set_cons_zero, List.set_cons_succ]
        refine Inv.done (by kernel_rfl) (NoPanic.normal ?_)
        have OF := O3
        have BF := B3
        obtain ⟨sa, sm, sc, hsl⟩ : ∃ sa sm sc, Value.slice sa sm sc = .slice v3a v3m v3c := ⟨_, _, _, rfl⟩
        rw [← hsl] at OF ⊢
        clear hsl
        obtain ⟨wS, hwS⟩ : ∃ z, z = y3 := ⟨_, rfl⟩
        rw [← hwS] at OF BF ⊢
        clear hwS
        have OL := Lib.hid (OW.out.below BF.out)
        have BY := Lib.hid (BW.out.trans (BF.out.mono BW.out.size))
        have K12 := Lib.hid (Mis.hb BY.out K10.out)
        have K13 := Lib.hid (Mis.hb BY.out K11.out)
        have GY := Lib.hid (G9.out.trans (grown_low (r := some w.heap.size) BY.out))
        have LL : (c.take k ++ [1, 0, 0] ++ c.drop (k + 1)).length ≤ 6001 := by simp; omega
        have LS : (c.take k ++ c.drop (k + 1)).length ≤ 6001 := by simp; omega
        have C1 := CK.out wS GY.out tol (Int.le_refl _) (by omega) _ _ (lst_of_buf OL.out) LL
        have C2 := fun (w' : World) (h' : Below wS.heap.size wS w') => CK.out w' (GY.out.trans (grown_low h')) tol (Int.le_refl _) (by omega) _ _ ((lst_of_buf OF.out).below h') LS
        rw [if_neg (short_no (RD.out tol (Int.le_refl _)) hk hk0)] at C2
        obtain ⟨r1, hr1⟩ : ∃ z : Int, z = if rd Ak (prv Ak FN.m lw AA tol) f ⟨a1, a2, a3, d1, d2, d3⟩ (c.take k ++ [1, 0, 0] ++ c.drop (k + 1)) = some [] then 0 else 26 := ⟨_, rfl⟩
        have hr2 : r1 = 0 ∨ r1 = 26 := by rw [hr1]; split <;> simp
        rw [← hr1] at C1
        replace C1 := Lib.hid C1
        replace C2 := Lib.hid C2
        have BE := Lib.hid (BD.out.trans (BY.out.mono BD.out.size))
        clear hr1 OF OW OL BF BW BX SRC3 SRC4 K10 K11 GY CK RD CEw CE hv hcd hwr had2 BD BY G9 LL LS hk0
        go_wp2_with (first | ((with_reducible refine Mid.ldr 33 (.tmp 4) p4 33 #[.int .i64 a1, .int .i64 a2, .int .i64 a3, .int .i64 d1, .int .i64 d2, .int .i64 d3, .int .i64 s, .slice (some ⟨b1, 0, none⟩) n c1, .slice (some ⟨b2, 0, none⟩) n c2, .slice (some ⟨gp0, 0, none⟩) nl cpp, .int .i64 cp] K12.out ?_ ?_ ?_ ?_ ?_ ?_); (· rfl); (· rfl); (· first | rfl | simp [Act.eval]); (· exact ⟨_, rfl, rfl⟩); (· kernel_rfl)) | ((with_reducible refine Mid.ldr 37 (.tmp 6) p6 37 (lrow FN lw AA).toArray K13.out ?_ ?_ ?_ ?_ ?_ ?_); (· rfl); (· rfl); (· first | rfl | simp [Act.eval]); (· exact ⟨_, rfl, rfl⟩); (· kernel_rfl)) | fail)
        refine C1.out.mono ?_
        rintro e wT ⟨rfl, bT⟩
        have K14 := Lib.hid (Mis.hb bT K12.out)
        have K15 := Lib.hid (Mis.hb bT K13.out)
        have C3 := Lib.hid (C2.out wT bT)
        have BG := Lib.hid (Buf.then_ BE.out bT)
        clear C1 C2 bT K12 K13 BE
        rcases hr2 with rfl | rfl
        · go_wp2_with (first | ((with_reducible refine Mid.ldrg 33 (.tmp 4) p4 33 #[.int .i64 a1, .int .i64 a2, .int .i64 a3, .int .i64 d1, .int .i64 d2, .int .i64 d3, .int .i64 s, .slice (some ⟨b1, 0, none⟩) n c1, .slice (some ⟨b2, 0, none⟩) n c2, .slice (some ⟨gp0, 0, none⟩) nl cpp, .int .i64 cp] K14.out ?_ ?_ ?_ ?_ ?_ ?_); (· rfl); (· first | rfl | simp [Region.wanted, yielded]); (· first | rfl | simp [Act.eval]); (· exact ⟨_, rfl, rfl⟩); (· kernel_rfl)) | ((with_reducible refine Mid.ldrg 37 (.tmp 6) p6 37 (lrow FN lw AA).toArray K15.out ?_ ?_ ?_ ?_ ?_ ?_); (· rfl); (· first | rfl | simp [Region.wanted, yielded]); (· first | rfl | simp [Act.eval]); (· exact ⟨_, rfl, rfl⟩); (· kernel_rfl)) | fail)
          refine C3.out.mono ?_
          rintro e wU ⟨rfl, bU⟩
          have BH := Lib.hid (Buf.then_ BG.out bU)
          clear C3 bU
          go_wp2_with (go_at_call 19; refine (awake29_any _).mono ?_; rintro e wZ ⟨rfl, bZ⟩)
          go_ret
          exact ⟨rfl, Buf.then_ BH.out bZ⟩
        · go_wp2_with (first | ((with_reducible refine Mid.ldrg 33 (.tmp 4) p4 33 #[.int .i64 a1, .int .i64 a2, .int .i64 a3, .int .i64 d1, .int .i64 d2, .int .i64 d3, .int .i64 s, .slice (some ⟨b1, 0, none⟩) n c1, .slice (some ⟨b2, 0, none⟩) n c2, .slice (some ⟨gp0, 0, none⟩) nl cpp, .int .i64 cp] K14.out ?_ ?_ ?_ ?_ ?_ ?_); (· rfl); (· first | rfl | simp [Region.wanted, yielded]); (· first | rfl | simp [Act.eval]); (· exact ⟨_, rfl, rfl⟩); (· kernel_rfl)) | ((with_reducible refine Mid.ldrg 37 (.tmp 6) p6 37 (lrow FN lw AA).toArray K15.out ?_ ?_ ?_ ?_ ?_ ?_); (· rfl); (· first | rfl | simp [Region.wanted, yielded]); (· first | rfl | simp [Act.eval]); (· exact ⟨_, rfl, rfl⟩); (· kernel_rfl)) | fail)
          refine C3.out.mono ?_
          rintro e wU ⟨rfl, bU⟩
          have BH := Lib.hid (Buf.then_ BG.out bU)
          clear C3 bU
          go_wp2_with (go_at_call 19; refine (awake29_any _).mono ?_; rintro e wZ ⟨rfl, bZ⟩)
          go_ret
          exact ⟨rfl, Buf.then_ BH.out bZ⟩
    · have h0b : (v != 0) = true := by simp [h0]
      have hkl : k + 1 < c.length := by
        by_cases h : k + 1 < c.length
        · exact h
        · exfalso
          apply h0
          rw [hv.out]
          have e := hcd.out
          have hl : c.length = cd.length + 1 := by rw [e]; simp
          have hk' : k = cd.length := by omega
          subst hk'
          have : c[cd.length]? = some 0 := by rw [e]; simp
          rw [List.getElem?_eq_getElem hk] at this
          exact Option.some.inj this
      go_wp2_with fail
      go_roundw
      case rel => exact ⟨k + 1, by go_num, hkl, hwr⟩
      case measure => simp [intOf]; omega
end Laws
end Go.Proofs.Ytofaabikdkfjcaa
