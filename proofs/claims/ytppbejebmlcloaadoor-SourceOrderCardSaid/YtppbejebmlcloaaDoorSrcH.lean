/- Lists of identifiers; Select of source. -/
import Derived.Test.YtppbejebmlcloaaDoorSrcG
import Derived.OwnWalk
import Derived.Laws.AppendOwn
import Derived.Laws.OwnMore
import Derived.Deep.DeepCutAuto
set_option linter.unusedVariables false
set_option linter.unusedSimpArgs false
namespace Go.Proofs.YtppbejebmlcloaaDoor
open Go.RowKit Dice
namespace Sc
abbrev Q4 := List UInt8 × List UInt8 × List UInt8 × List UInt8
def cQ (l : List Q4) : List Value := l.flatMap fun q => [.string ⟨⟨q.1⟩⟩, .string ⟨⟨q.2.1⟩⟩, .string ⟨⟨q.2.2.1⟩⟩, .string ⟨⟨q.2.2.2⟩⟩]
theorem cQ_snoc (l : List Q4) (a b c d : List UInt8) : cQ (l ++ [(a, b, c, d)]) = cQ l ++ [.string ⟨⟨a⟩⟩, .string ⟨⟨b⟩⟩, .string ⟨⟨c⟩⟩, .string ⟨⟨d⟩⟩] := by simp [cQ, List.flatMap_append]
theorem cQ_length (l : List Q4) : (cQ l).length = l.length * 4 := by
  induction l with
  | nil => rfl
  | cons p l ih => simp only [cQ, List.flatMap_cons, List.length_append, List.length_cons, List.length_nil] at ih ⊢; omega
theorem cQ_get (l : List Q4) (k : Nat) (q : Q4) (h : l[k]? = some q) :
    (cQ l)[k * 4]? = some (.string ⟨⟨q.1⟩⟩) ∧ (cQ l)[k * 4 + 1]? = some (.string ⟨⟨q.2.1⟩⟩) ∧ (cQ l)[k * 4 + 2]? = some (.string ⟨⟨q.2.2.1⟩⟩) ∧ (cQ l)[k * 4 + 3]? = some (.string ⟨⟨q.2.2.2⟩⟩) := by
  induction l generalizing k with
  | nil => simp at h
  | cons p l ih =>
    have e : cQ (p :: l) = .string ⟨⟨p.1⟩⟩ :: .string ⟨⟨p.2.1⟩⟩ :: .string ⟨⟨p.2.2.1⟩⟩ :: .string ⟨⟨p.2.2.2⟩⟩ :: cQ l := by simp [cQ]
    rw [e]
    cases k with
    | zero => simp at h; subst h; simp
    | succ k =>
      have := ih k (by simpa using h)
      have e1 : (k + 1) * 4 = k * 4 + 1 + 1 + 1 + 1 := by omega
      rw [e1]
      simpa using this
section
variable {P : Program}
theorem append4 {ops : Array Oper} {rest : List Oper} {o : Oper} {a : Act} {Q : Exit → Act → World → Prop} (hgd : o.guard = none) (s x : Operand) (t : TypeId)
    (ho : o.op = .call { callee := .builtin .append, args := #[s, x], argTypes := #[t, t] })
    (B : Nat) (e e1 : TypeId) (i : TypeInfo) (z : Value) (bytes : Nat) (ht : P.underlying t = some (.slice e)) (hi : P.info? e = some i) (hz : i.zero = some z) (hsize : i.size = 4) (hby : i.bytes = bytes) (hzs : z.cells.size = 4)
    {w : World} {v : Value} {n : Nat} {xs : List Value} (hv : a.eval s = v) (h : w.ownsRow B e 4 v n xs) (hB : B ≤ w.heap.size)
    (u0 u1 u2 u3 : Value) (h0 : u0.oneCell' = true) (h1 : u1.oneCell' = true) (h2 : u2.oneCell' = true) (h3 : u3.oneCell' = true) (hx : a.eval x = .slice (some ⟨w.heap.size, 0, none⟩) 1 1) (h63 : n + 1 ≤ maxLen) (hbytes : (n + 1) * bytes ≤ 140737488355328)
    (hK : ∀ v' w', w'.ownsRow B e 4 v' (n + 1) (xs ++ [u0, u1, u2, u3]) → (w.alloc (.cells #[u0, u1, u2, u3] e1)).grownBy w' v.ownBlock → wpList P ops Q rest (a.put o.dst v') w') : wpList P ops Q (o :: rest) a (w.alloc (.cells #[u0, u1, u2, u3] e1)) := by
  have hc : ∀ j, (w.alloc (.cells #[u0, u1, u2, u3] e1)).cell? ⟨w.heap.size, j, none⟩ = #[u0, u1, u2, u3][j]? := fun j => World.cell?_alloc_mark w #[u0, u1, u2, u3] e1 (0, 0) j
  refine wpList_append_own _ hgd s x t ho B e i z 4 bytes ht hi hz hsize hby hzs (by decide) v n xs hv (h.alloc _) ⟨w.heap.size, 0, none⟩ 1 1 [u0, u1, u2, u3] hx rfl (fun j u hu => ?_) (fun u hu => ?_) h63 hbytes (by simp; omega) (fun v' w' h2 h3 _ => hK v' w' h2 h3)
  · rw [Addr.add_lit, Nat.zero_add, hc]
    rw [← hu]
    simp
  · simp at hu
    rcases hu with rfl | rfl | rfl | rfl <;> assumption
end
theorem own_below {w w' : World} {B : Nat} {e : TypeId} {s : Nat} {v : Value} {n : Nat} {xs : List Value} (h : w.ownsRow B e s v n xs) (hb : Below w.heap.size w w') : w'.ownsRow B e s v n xs :=
  h.kept (Dice.grown_of_below (r := none) hb) (by cases v.ownBlock <;> simp)
theorem own_lower {w : World} {B B' : Nat} {e : TypeId} {s : Nat} {v : Value} {n : Nat} {xs : List Value} (h : w.ownsRow B e s v n xs) (hB : B' ≤ B) : w.ownsRow B' e s v n xs := by
  refine ⟨h.1, h.2.imp id ?_⟩
  rintro ⟨g, cap, cur, rfl, h1, h2⟩
  exact ⟨g, cap, cur, rfl, Nat.le_trans hB h1, h2⟩
theorem infoQ : (Tryd.prog.info? 28).map (fun i => (i.zero, i.size, i.bytes)) = some (some (.agg #[.string ⟨#[]⟩, .string ⟨#[]⟩, .string ⟨#[]⟩, .string ⟨#[]⟩]), 4, 64) := by kernel_rfl
/-- What the loop of Select knows: what was found lies beyond B. -/
structure SM (B : Nat) (w1 wr : World) (v : Value) (F : List Q4) : Prop where
  own : wr.ownsRow B 28 4 v F.length (cQ F)
  bel : Below w1.heap.size w1 wr
  le : B ≤ w1.heap.size
  ge : w1.heap.size ≤ B
theorem SM.next {B : Nat} {w1 wr w' : World} {v : Value} {F : List Q4} (h : SM B w1 wr v F) (b : Below wr.heap.size wr w') : SM B w1 w' v F :=
  ⟨own_below h.own b, Buf.then_ h.bel b, h.le, h.ge⟩
theorem SM.more {B : Nat} {w1 wr w' : World} {v v' : Value} {F : List Q4} {o : Obj} {a b c d : List UInt8} (h : SM B w1 wr v F) (hg : (wr.alloc o).grownBy w' v.ownBlock)
    (ho : w'.ownsRow B 28 4 v' (F.length + 1) (cQ F ++ [.string ⟨⟨a⟩⟩, .string ⟨⟨b⟩⟩, .string ⟨⟨c⟩⟩, .string ⟨⟨d⟩⟩])) : SM B w1 w' v' (F ++ [(a, b, c, d)]) := by
  refine ⟨by rw [cQ_snoc]; simpa using ho, ?_, h.le, h.ge⟩
  refine Below.grown (Buf.then_ h.bel (new_block o)) hg (by rw [World.size_alloc]; have := h.bel.size; omega) fun k hk => ?_
  have := (h.own.lt _ hk).1
  have := h.ge
  omega
def sel (a b c d : List UInt8) (L : List Q4) : List Q4 := L.filter fun q => m4 a b c d q.1 q.2.1 q.2.2.1 q.2.2.2
theorem sel_snoc (a b c d : List UInt8) (L : List Q4) (k : Nat) (q : Q4) (h : L[k]? = some q) :
    sel a b c d (L.take (k + 1)) = if m4 a b c d q.1 q.2.1 q.2.2.1 q.2.2.2 then sel a b c d (L.take k) ++ [q] else sel a b c d (L.take k) := by
  unfold sel
  rw [List.take_add_one, h, List.filter_append]
  by_cases e : m4 a b c d q.1 q.2.1 q.2.2.1 q.2.2.2 = true
  · simp [e]
  · simp [e]
theorem sel_le (a b c d : List UInt8) (L : List Q4) (k : Nat) : (sel a b c d (L.take k)).length ≤ L.length :=
  Nat.le_trans (List.length_filter_le ..) (by simp; omega)
set_option maxRecDepth 100000 in
set_option maxHeartbeats 4000000 in
theorem select_any {a b c d : List UInt8} (ha : Part a) (hb' : Part b) (hc : Part c) (hd : Part d) (L : List Q4) (n : Nat) (hn : L.length = n) (h9 : n ≤ 100) (hL : ∀ q ∈ L, Src4 q.1 q.2.1 q.2.2.1 q.2.2.2)
    (w : World) (g : Nat) (K : w.heap[g]? = some (.cells (cQ L).toArray 28 (0, 0))) (hm : Mx w) :
    Calls Tryd.prog 16 #[.string ⟨⟨j4 a b c d⟩⟩, .slice (some ⟨g, 0, none⟩) n n] w fun e w' =>
      ∃ v, e = .returned (.tuple #[v, .int .i64 0]) ∧ w'.ownsRow w.heap.size 28 4 v (sel a b c d L).length (cQ (sel a b c d L)) ∧ Below w.heap.size w w' := by
  obtain ⟨i0, hi, hz0, hz1, hz2⟩ := info_parts infoQ
  have Q := Lib.hid (parts_any ha hb' hc hd w hm)
  have M := Lib.hid fun q (hq : q ∈ L) w' g K => matchParts_any ha hb' hc hd (hL q hq) w' g K
  have V := Lib.hid fun q (hq : q ∈ L) w' => valid_yes (hL q hq) w'
  obtain ⟨p, hp⟩ : ∃ p, p = w.heap.size := ⟨_, rfl⟩
  rw [← hp] at Q
  replace hp := Lib.hid hp
  clear ha hb' hc hd hm hL
  go_enter Tryd.func16, Tryd.ntmps16
  go_upto_region 4 with (go_at_call 19; refine (Q.out).mono ?_; rintro e w1 ⟨rfl, K1, b1⟩)
  rw [hp.out] at b1
  have R1 := Lib.hid (hb b1 K)
  replace K1 := Lib.hid K1
  have b1' := Lib.hid b1
  obtain ⟨B, hB⟩ : ∃ B, B = w1.heap.size := ⟨_, rfl⟩
  have M0 : Hid (SM B w1 w1 (.slice none 0 0) (sel a b c d (L.take 0))) := Lib.hid ⟨World.ownsRow_nil _ _ _ _, Below.refl _ _, by omega, by omega⟩
  have hbw := b1.size
  have hB' := Lib.hid hB
  clear hB b1 K
  replace hn := Lib.hid hn
  go_wp2_with fail
  go_loopw [8, 20] (fun v i wr => ∃ (k : Nat) (x : World) (u : Value), x = wr ∧ u = v ∧ k ≤ n ∧ i = .int .i64 k ∧ Hid (SM B w1 x u (sel a b c d (L.take k)))) (fun _ i _ => n - (intOf i).toNat)
  case atStart => exact ⟨0, _, _, rfl, rfl, by omega, rfl, M0⟩
  case round =>
    clear M0
    obtain ⟨k, wr, v, rfl, rfl, hk, rfl, S⟩ := hrel
    by_cases hlt : k < n
    · obtain ⟨⟨s0, s1, s2, s3⟩, hq⟩ : ∃ q, L[k]? = some q := ⟨L[k]'(by rw [hn.out]; exact hlt), List.getElem?_eq_getElem _⟩
      have bi : (k : Int) < n := by omega
      have Vq := Lib.hid (V.out _ (List.mem_of_getElem? hq))
      have Mq := Lib.hid (M.out _ (List.mem_of_getElem? hq))
      have E := Lib.hid (sel_snoc a b c d L k _ hq)
      have G := cQ_get L k _ hq
      obtain ⟨g0, g1, g2, g3⟩ := G
      have R := Lib.hid (hb (Buf.then_ (Below.refl _ _) S.out.bel) R1.out)
      have KP := Lib.hid (K1.out.next S.out.bel)
      have d0 := (cell_of_row wr g (k * 4) _ _ _ R.out).trans ((by simpa using g0 : (cQ L).toArray[k * 4]? = _))
      have d1 := (cell_of_row wr g (k * 4 + 1) _ _ _ R.out).trans ((by simpa using g1 : (cQ L).toArray[k * 4 + 1]? = _))
      have d2 := (cell_of_row wr g (k * 4 + 2) _ _ _ R.out).trans ((by simpa using g2 : (cQ L).toArray[k * 4 + 2]? = _))
      have d3 := (cell_of_row wr g (k * 4 + 3) _ _ _ R.out).trans ((by simpa using g3 : (cQ L).toArray[k * 4 + 3]? = _))
      clear g0 g1 g2 g3
      replace hq := Lib.hid hq
      go_upto_region 8 with fail
      obtain ⟨wq, hwq⟩ : ∃ wq, wq = wr.alloc (.cells #[.string ⟨⟨s0⟩⟩, .string ⟨⟨s1⟩⟩, .string ⟨⟨s2⟩⟩, .string ⟨⟨s3⟩⟩] 28) := ⟨_, rfl⟩
      obtain ⟨q, hqq⟩ : ∃ q, q = wr.heap.size := ⟨_, rfl⟩
      have Wq := Lib.hid (show Below wr.heap.size wr wq by rw [hwq]; exact new_block _)
      have Cq := Lib.hid (show wq.heap[q]? = some (.cells #[.string ⟨⟨s0⟩⟩, .string ⟨⟨s1⟩⟩, .string ⟨⟨s2⟩⟩, .string ⟨⟨s3⟩⟩] 28 (0, 0)) by rw [hwq, hqq]; exact heap_alloc_new wr _)
      rw [← hwq, ← hqq]
      have KQ := Lib.hid (KP.out.next Wq.out)
      replace S := Lib.hid (S.out.next Wq.out)
      replace hwq := Lib.hid hwq
      replace hqq := Lib.hid hqq
      clear d0 d1 d2 d3 R KP
      obtain ⟨x0, x1, x2, x3⟩ := Rec.c4 Cq.out
      cases hr : m4 a b c d s0 s1 s2 s3
      · rw [hr] at E Mq
        replace hr := Lib.hid hr
        go_wp2_with (first
          | (go_at_call 17; refine (Vq.out _).mono ?_; rintro e w3 ⟨rfl, b3⟩; have C3 := Lib.hid (hb b3 Cq.out); have K3 := Lib.hid (KQ.out.next b3); have S3 := Lib.hid (S.out.next b3); clear x0 x1 x2 x3; obtain ⟨x0, x1, x2, x3⟩ := Rec.c4 C3.out)
          | (go_at_call 20; refine (Mq.out _ _ K3.out).mono ?_; rintro e w4 ⟨rfl, b4⟩; have S4 := Lib.hid (S3.out.next b4)))
        go_roundw
        case rel => exact ⟨k + 1, _, _, rfl, rfl, by omega, by go_num, by rw [E.out]; exact S4⟩
        case measure => simp [intOf]; omega
      · rw [hr] at E Mq
        replace hr := Lib.hid hr
        have m1 : Hid ((sel a b c d (L.take k)).length + 1 ≤ maxLen) := Lib.hid (by have := sel_le a b c d L k; rw [hn.out] at this; unfold maxLen; omega)
        have m2 : Hid (((sel a b c d (L.take k)).length + 1) * 64 ≤ 140737488355328) := Lib.hid (by have := sel_le a b c d L k; rw [hn.out] at this; omega)
        go_wp2_with (first
          | (go_at_call 17; refine (Vq.out _).mono ?_; rintro e w3 ⟨rfl, b3⟩; have C3 := Lib.hid (hb b3 Cq.out); have K3 := Lib.hid (KQ.out.next b3); have S3 := Lib.hid (S.out.next b3); clear x0 x1 x2 x3; obtain ⟨x0, x1, x2, x3⟩ := Rec.c4 C3.out)
          | (go_at_call 20; refine (Mq.out _ _ K3.out).mono ?_; rintro e w4 ⟨rfl, b4⟩; have S4 := Lib.hid (S3.out.next b4); have C4 := Lib.hid (hb b4 C3.out); clear x0 x1 x2 x3; obtain ⟨x0, x1, x2, x3⟩ := Rec.c4 C4.out; have hsz : B ≤ w4.heap.size := Nat.le_trans S4.out.le S4.out.bel.size)
          | (at_builtin; refine append4 rfl _ _ 38 rfl B 28 _ i0 _ 64 Tryd.underlying38 hi hz0 hz1 hz2 rfl rfl S4.out.own hsz _ _ _ _ rfl rfl rfl rfl rfl m1.out m2.out ?_; intro v' w6 hown' hg; have S6 := Lib.hid (S4.out.more hg hown'); clear hown' hg))
        go_roundw
        case rel => exact ⟨k + 1, _, _, rfl, rfl, by omega, by go_num, by rw [E.out]; exact S6⟩
        case measure => simp [intOf]; omega
    · obtain rfl : k = n := by omega
      rw [List.take_of_length_le (by rw [hn.out]; exact Nat.le_refl _)] at S
      go_wp2
      refine bodyPost_ret (results_tmp2 rfl _ _ _) rfl ?_
      exact ⟨_, rfl, own_lower S.out.own (Nat.le_trans hbw S.out.ge), Buf.then_ b1'.out S.out.bel⟩
end Sc
end Go.Proofs.YtppbejebmlcloaaDoor
