/- The reference's Normal of any list: mathematics of its insertions, copies of elements of two cells. -/
import Derived.Test.YtfmhfhggogjbkaaRfN
import Derived.Test.YtfmhfhggogjbkaaSpnC
import Derived.Laws.CopyRow
set_option linter.unusedVariables false
set_option linter.unusedSimpArgs false
namespace Go.Proofs.Ytfmhfhggogjbkaa
open Go.RowKit Dice
namespace Spn
open Sp (cells2 cells2_snoc cells2_get Spans own_kept own_below own_mono own_shape)
theorem cells2_take (L : LP) (k : Nat) : (cells2 L).take (k * 2) = cells2 (L.take k) := by
  induction L generalizing k with
  | nil => simp [cells2]
  | cons p l ih =>
    cases k with
    | zero => simp [cells2]
    | succ k =>
      have e : cells2 (p :: l) = [.int .i64 p.1, .int .i64 p.2] ++ cells2 l := by simp [cells2]
      have e2 : cells2 ((p :: l).take (k + 1)) = [.int .i64 p.1, .int .i64 p.2] ++ cells2 (l.take k) := by simp [cells2]
      rw [e, e2, ← ih, show (k + 1) * 2 = k * 2 + 1 + 1 by omega]
      rfl
theorem cells2_drop (L : LP) (k : Nat) : (cells2 L).drop (k * 2) = cells2 (L.drop k) := by
  induction L generalizing k with
  | nil => simp [cells2]
  | cons p l ih =>
    cases k with
    | zero => simp
    | succ k =>
      have e : cells2 (p :: l) = [.int .i64 p.1, .int .i64 p.2] ++ cells2 l := by simp [cells2]
      rw [e, List.drop_succ_cons, ← ih, show (k + 1) * 2 = k * 2 + 1 + 1 by omega]
      rfl
theorem cells2_set (L : LP) (k : Nat) (s : Int × Int) : ((cells2 L).set (k * 2) (.int .i64 s.1)).set (k * 2 + 1) (.int .i64 s.2) = cells2 (L.set k s) := by
  induction L generalizing k with
  | nil => simp [cells2]
  | cons p l ih =>
    have e : cells2 (p :: l) = [.int .i64 p.1, .int .i64 p.2] ++ cells2 l := by simp [cells2]
    cases k with
    | zero => rw [e]; simp [cells2]
    | succ k =>
      have e2 : cells2 ((p :: l).set (k + 1) s) = [.int .i64 p.1, .int .i64 p.2] ++ cells2 (l.set k s) := by simp [cells2]
      rw [e, e2, ← ih, show (k + 1) * 2 = 2 + k * 2 by omega]
      rw [List.set_append_right _ _ (by simp), List.set_append_right _ _ (by simp; omega)]
      congr 3 <;> simp <;> omega
/-- A list into which s is put at k. -/
def insL (S : LP) (s : Int × Int) (k : Nat) : LP := S.take k ++ s :: S.drop k
theorem insL_set (S : LP) (s : Int × Int) (k : Nat) (hk : k ≤ S.length) : ((S ++ [s]).take (k + 1) ++ S.drop k).set k s = insL S s k := by
  apply List.ext_getElem?
  intro j
  simp only [insL, List.getElem?_set, List.getElem?_append, List.getElem?_take, List.getElem?_drop, List.getElem?_cons, List.length_append, List.length_take, List.length_drop, List.length_cons, List.length_nil]
  have m1 : min (k + 1) (S.length + (0 + 1)) = k + 1 := by omega
  have m2 : min k S.length = k := by omega
  rw [m1, m2]
  by_cases h : k = j
  · subst h
    rw [if_pos rfl, if_pos (by omega), if_neg (by omega), if_pos (by omega)]
  · rw [if_neg h]
    by_cases h2 : j < k
    · rw [if_pos (by omega), if_pos (by omega), if_pos (by omega), if_pos (by omega), if_pos (by omega)]
    · rw [if_neg (by omega), if_neg (by omega), if_neg (by omega)]
      congr 1 <;> omega
theorem insL_len (S : LP) (s : Int × Int) (k : Nat) (hk : k ≤ S.length) : (insL S s k).length = S.length + 1 := by simp [insL]; omega
theorem insL_perm (S : LP) (s : Int × Int) (k : Nat) : (insL S s k).Perm (S ++ [s]) := by
  have h : (S.take k ++ s :: S.drop k).Perm (s :: (S.take k ++ S.drop k)) := List.perm_middle
  rw [List.take_append_drop] at h
  exact h.trans (List.perm_append_comm (l₁ := [s]) (l₂ := S))
/-- Of the elements ahead of i: those that are spans, sorted. -/
structure Ns (L : LP) (i : Nat) (S : LP) : Prop where
  has : ∀ x, hasB S x = hasB (L.take i) x
  srt : S.Pairwise (fun p q => p.1 ≤ q.1)
  one : ∀ p ∈ S, p.1 < p.2
  len : S.length ≤ i
theorem Ns.start (L : LP) : Ns L 0 [] := ⟨fun x => by simp [hasB], List.Pairwise.nil, fun p hp => (by cases hp), Nat.le_refl _⟩
theorem Ns.skip {L S : LP} {i : Nat} (h : Ns L i S) {s : Int × Int} (hs : L[i]? = some s) (hle : s.2 ≤ s.1) : Ns L (i + 1) S :=
  ⟨fun x => by rw [h.has, take_succ_has L i _ hs, decide_eq_false (by omega), Bool.or_false], h.srt, h.one, Nat.le_succ_of_le h.len⟩
theorem Ns.ins {L S : LP} {i : Nat} (h : Ns L i S) {s : Int × Int} (hs : L[i]? = some s) (hlt : s.1 < s.2) {k : Nat} (hk : k ≤ S.length) (h1 : ∀ (j : Nat) (q : Int × Int), k ≤ j → S[j]? = some q → s.1 < q.1) (h2 : ∀ (j : Nat) (q : Int × Int), j + 1 = k → S[j]? = some q → q.1 ≤ s.1) : Ns L (i + 1) (insL S s k) := by
  have hp := insL_perm S s k
  refine ⟨fun x => ?_, ?_, fun p hpm => ?_, by rw [insL_len S s k hk]; have := h.len; omega⟩
  · rw [hasB_perm hp x, hasB_append, h.has, take_succ_has L i _ hs]
    simp [hasB]
  · have hsrt := h.srt
    have e := List.take_append_drop k S
    rw [← e, List.pairwise_append] at hsrt
    obtain ⟨p1, p2, p3⟩ := hsrt
    have d1 : ∀ q ∈ S.drop k, s.1 < q.1 := fun q hq => by
      obtain ⟨j, hj⟩ := List.mem_iff_getElem?.1 hq
      rw [List.getElem?_drop] at hj
      exact h1 (k + j) q (by omega) hj
    have d2 : ∀ q ∈ S.take k, q.1 ≤ s.1 := fun q hq => by
      rcases Nat.eq_zero_or_pos k with rfl | hk0
      · simp at hq
      · have hl : k - 1 < S.length := by omega
        have hlast := h2 (k - 1) S[k - 1] (by omega) (List.getElem?_eq_getElem hl)
        obtain ⟨j, hj, rfl⟩ := List.mem_iff_getElem.1 hq
        rw [List.getElem_take]
        simp at hj
        rcases Nat.lt_or_ge j (k - 1) with c | c
        · have := List.pairwise_iff_getElem.1 h.srt j (k - 1) (by omega) hl c
          omega
        · have : j = k - 1 := by omega
          subst this; exact hlast
    unfold insL
    rw [List.pairwise_append]
    refine ⟨p1, List.pairwise_cons.2 ⟨fun q hq => by have := d1 q hq; omega, p2⟩, fun a ha b hb => ?_⟩
    rcases List.mem_cons.1 hb with rfl | hb
    · exact d2 a ha
    · exact p3 a ha b hb
  · rcases List.mem_append.1 (hp.mem_iff.1 hpm) with hm | hm
    · exact h.one p hm
    · simp at hm; subst hm; exact hlt
theorem Ns.at {L S : LP} {i : Nat} (h : Ns L i S) : ∀ (a b : Nat) (p q : Int × Int), a < b → S[a]? = some p → S[b]? = some q → p.1 ≤ q.1 := by
  intro a b p q hab hp hq
  obtain ⟨ha, rfl⟩ := List.getElem?_eq_some_iff.1 hp
  obtain ⟨hb, rfl⟩ := List.getElem?_eq_some_iff.1 hq
  exact List.pairwise_iff_getElem.1 h.srt a b ha hb hab
/-- The memory of Normal's second list. -/
structure Ms (S : LP) (k : Nat) (N : LP) : Prop where
  is : Is N (hasB (S.take k))
  len : N.length ≤ k
  le : ∀ f, Le (S.take k) f → Le N f
theorem Ms.start (S : LP) : Ms S 0 [] := ⟨Is.nil (by simp [hasB]), Nat.le_refl _, fun f _ => Le.nil f⟩
theorem Ms.add {L S N : LP} {i k : Nat} (h : Ms S k N) (hS : Ns L i S) {s : Int × Int} (hs : S[k]? = some s) : Ms S (k + 1) (addL N s) := by
  have hle := h.le s.1 (le_sorted hS.at hs)
  have A3 := addL_spec h.is.canon (s := s) hle
  exact ⟨(h.is.add (s := s) hle).congr fun x => (take_succ_has S k _ hs x).symm, by have := A3.2.2.2; have := h.len; omega, fun f' hf => le_take_succ hs A3.2.2.1 f' hf⟩
section
variable {P : Program}
theorem run_copy_rowk (w : World) (dT sT ty elem : TypeId) (g o dLen dCap : Nat) (a : Addr) (sLen sCap : Nat) (cur : Array Value) (t : TypeId) (cs : List Value) (k : Nat)
    (hu : P.underlying dT = some (.slice elem)) (hs : (P.info? elem).map (·.size) = some k)
    (hg : w.heap[g]? = some (.cells cur t (0, 0))) (hn : cs.length = Nat.min sLen dLen * k)
    (hsrc : ∀ j v, cs[j]? = some v → w.cell? (a.add j) = some v) (hfit : o + cs.length ≤ cur.size) (h1 : ∀ v ∈ cs, v.oneCell' = true) :
    (Builtin.copy_ #[dT, sT] ty #[.slice (some ⟨g, o, none⟩) dLen dCap, .slice (some a) sLen sCap]).run P w =
      .ok (goInt (Nat.min sLen dLen)) (w.setRow g (cur.toList.take o ++ cs ++ cur.toList.drop (o + cs.length)).toArray) := by
  have hl := run_loadCells_list (P := P) w a cs hsrc
  have hst := run_storeCells_at P g o t cs 0 cur w hg (by simpa using hfit) h1
  cases hq : P.info? elem with
  | none => simp [hq] at hs
  | some i =>
    have hi : i.size = k := by simpa [hq] using hs
    have hn' : Nat.min sLen dLen * k = cs.length := hn.symm
    simp only [Builtin.copy_, run_underlying hu, Builtin.lenOf, Builtin.firstCells, sizeOf, typeInfo, hq, hi]
    simp [hi, hn', hl, hst, hq, run_underlying hu, Builtin.lenOf, Builtin.firstCells, sizeOf, typeInfo]
theorem wp_copy_rowk {w : World} {o : Oper} {a : Act} {K : Act → World → Prop} {Q : Exit → Act → World → Prop} (d s : Operand) (dT sT : TypeId)
    (ho : o.op = .call { callee := .builtin .copy, args := #[d, s], argTypes := #[dT, sT] }) (elem : TypeId) (k : Nat) (hu : P.underlying dT = some (.slice elem)) (hsz : (P.info? elem).map (·.size) = some k)
    (g off dLen dCap : Nat) (ad : Addr) (sLen sCap : Nat) (hd : a.eval d = .slice (some ⟨g, off, none⟩) dLen dCap) (hs : a.eval s = .slice (some ad) sLen sCap)
    (cur : Array Value) (t : TypeId) (hg : w.heap[g]? = some (.cells cur t (0, 0))) (cs : List Value) (hn : cs.length = Nat.min sLen dLen * k)
    (hsrc : ∀ j v, cs[j]? = some v → w.cell? (ad.add j) = some v) (hfit : off + cs.length ≤ cur.size) (h1 : ∀ v ∈ cs, v.oneCell' = true)
    (h : K (a.put o.dst (goInt (Nat.min sLen dLen))) (w.setRow g (cur.toList.take off ++ cs ++ cur.toList.drop (off + cs.length)).toArray)) : o.wp P a w K Q := by
  have hr := run_copy_rowk (P := P) w dT sT o.type elem g off dLen dCap ad sLen sCap cur t cs k hu hsz hg hn hsrc hfit h1
  unfold Oper.wp execOp
  simp only [ho, resolve, invoke, builtin, Sem.run_bind, Sem.run_pure, Result.andThen_ok, List.map_toArray, List.map_cons, List.map_nil, hd, hs, hr]
  exact h
end
/-- The elements from k on move up by one. -/
theorem own_move {w : World} {B g m c : Nat} {S : LP} {s : Int × Int} (hm : m = S.length) (h : w.ownsRow B 49 2 (.slice (some ⟨g, 0, none⟩) (m + 1) c) (m + 1) (cells2 (S ++ [s]))) (k : Nat) (hk : k ≤ m) :
    ∃ cur : Array Value, w.heap[g]? = some (.cells cur 49 (0, 0)) ∧ (k + 1) * 2 + (cells2 (S.drop k)).length ≤ cur.size ∧ (cells2 (S.drop k)).length = (m - k) * 2 ∧
      (∀ j v, (cells2 (S.drop k))[j]? = some v → w.cell? ((⟨g, k * 2, none⟩ : Addr).add j) = some v) ∧
      (w.setRow g (cur.toList.take ((k + 1) * 2) ++ cells2 (S.drop k) ++ cur.toList.drop ((k + 1) * 2 + (cells2 (S.drop k)).length)).toArray).ownsRow B 49 2 (.slice (some ⟨g, 0, none⟩) (m + 1) c) (m + 1) (cells2 ((S ++ [s]).take (k + 1) ++ S.drop k)) := by
  rcases h.2 with ⟨e, _⟩ | ⟨g', c', cur, e, hB, hg, hc, hmx, hsz, ht⟩
  · cases e
  · cases e
    have hl : (cells2 (S.drop k)).length = (m - k) * 2 := by rw [cells2_length]; simp; omega
    have hfit : (k + 1) * 2 + (cells2 (S.drop k)).length ≤ cur.size := by rw [hl, hsz]; omega
    refine ⟨cur, hg, hfit, hl, fun j v hv => ?_, ?_, .inr ⟨g, c, _, rfl, hB, setRow_heap w g cur _ _ _ hg, hc, hmx, ?_, ?_⟩⟩
    · have hj := (List.getElem?_eq_some_iff.1 hv).1
      have ha : (⟨g, k * 2, none⟩ : Addr).add j = ⟨g, k * 2 + j, none⟩ := by unfold Addr.add; split <;> simp_all
      rw [ha, h.cellAt _ (by omega), ← hv, ← cells2_drop, List.getElem?_drop, cells2_append, List.getElem?_append_left (by rw [cells2_length]; omega)]
    · rw [cells2_length]; simp; omega
    · have hlen : cur.toList.length = c * 2 := by simpa using hsz
      simp only [List.size_toArray, List.length_append, List.length_take, List.length_drop, hl, hlen]
      omega
    · simp only [List.toList_toArray]
      have e1 : cur.toList.take ((k + 1) * 2) = cells2 ((S ++ [s]).take (k + 1)) := by
        rw [← cells2_take, ← ht, List.take_take]; congr 1; omega
      rw [e1, ← cells2_append, List.take_append_of_le_length (by rw [cells2_length]; simp; omega)]
      apply List.take_of_length_le
      rw [cells2_length]; simp; omega
/-- An element is stored. -/
theorem own_put {w : World} {B g n c : Nat} {L : LP} (h : w.ownsRow B 49 2 (.slice (some ⟨g, 0, none⟩) n c) n (cells2 L)) (k : Nat) (s : Int × Int) :
    ((w.setCell ⟨g, k * 2, none⟩ (.int .i64 s.1)).setCell ⟨g, k * 2 + 1, none⟩ (.int .i64 s.2)).ownsRow B 49 2 (.slice (some ⟨g, 0, none⟩) n c) n (cells2 (L.set k s)) := by
  have h1 := (World.ownsRow.stored h (k * 2) (.int .i64 s.1)).1
  have h2 := (World.ownsRow.stored h1 (k * 2 + 1) (.int .i64 s.2)).1
  rw [cells2_set] at h2
  exact h2
end Spn
end Go.Proofs.Ytfmhfhggogjbkaa
