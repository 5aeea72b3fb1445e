/- slices.Clone, SortFunc of identifiers. -/
import Derived.Test.YtppbejebmlcloaaDoorSrcJ
import Derived.Test.YtppbejebmlcloaaDoorSrcK
import Derived.Lib.SliceRun
set_option linter.unusedVariables false
set_option linter.unusedSimpArgs false
namespace Go.Proofs.YtppbejebmlcloaaDoor
open Go.RowKit Dice
namespace Sc
def OwnQ (w : World) (B : Nat) (v : Value) (L : List Q4) : Prop := w.ownsRow B 28 4 v L.length (cQ L)
theorem cQ_one_cell (l : List Q4) : ∀ u ∈ cQ l, u.oneCell' = true := by
  intro u hu
  simp only [cQ, List.mem_flatMap, List.mem_cons, List.not_mem_nil, or_false] at hu
  obtain ⟨p, _, rfl | rfl | rfl | rfl⟩ := hu <;> rfl
theorem clone_any {w : World} {g : Nat} {L : List Q4} (n : Nat) (hn : n = L.length) (K : w.heap[g]? = some (.cells (cQ L).toArray 28 (0, 0))) (h9 : n ≤ 100) :
    Calls Tryd.prog 23 #[.slice (some ⟨g, 0, none⟩) n n] w fun e w' => (∃ r, e = .returned r ∧ OwnQ w' w.heap.size r L) ∧ Below w.heap.size w w' := by
  obtain ⟨i0, hi, hz0, hz1, hz2⟩ := info_parts infoQ
  have q : ∀ w : World, (binOp .eql 38 (.slice (some ⟨g, 0, none⟩) n n) (.slice none 0 0)).run Tryd.prog w = .ok (.bool false) w := fun w => Lib.run_eql_slice_nil (P := Tryd.prog) w 38 28 (some ⟨g, 0, none⟩) n n 0 0 rfl
  have O : Hid ((w.alloc (.cells #[] 28)).ownsRow w.heap.size 28 4 (.slice (some ⟨w.heap.size, 0, none⟩) 0 0) 0 []) := Lib.hid (World.ownsRow_lit w #[] 0 (Nat.le_refl _) (by decide) rfl)
  have K' := hb (new_block (w := w) (.cells #[] 28)) K
  have R' : Hid (∀ j u, (cQ L)[j]? = some u → (w.alloc (.cells #[] 28)).cell? ((⟨g, 0, none⟩ : Addr).add j) = some u) := Lib.hid fun j u hu => by
    rw [Addr.add_lit, Nat.zero_add, cell_of_row _ g j _ _ _ K']
    simpa using hu
  have hl : Hid ((cQ L).length = n * 4) := Lib.hid (by rw [cQ_length, hn])
  have h1 := Lib.hid (cQ_one_cell L)
  have m1 : Hid (0 + n ≤ maxLen) := Lib.hid (by unfold maxLen; omega)
  have m2 : Hid ((0 + n) * 64 ≤ 140737488355328) := Lib.hid (by omega)
  have hsz : w.heap.size ≤ (w.alloc (.cells #[] 28)).heap.size := by simp
  have OK : Hid (∀ r w', w'.ownsRow w.heap.size 28 4 r (0 + n) ([] ++ cQ L) → OwnQ w' w.heap.size r L) := Lib.hid fun r w' hh => by rw [hn] at hh; simpa [OwnQ] using hh
  clear K' K hn
  go_enter Tryd.func23, Tryd.ntmps23
  go_wp2_with (at_builtin; (refine wpList_append_own _ rfl (.tmp 5) (.tmp 6) 38 rfl w.heap.size 28 i0 _ 4 64 Tryd.underlying38 hi hz0 hz1 hz2 rfl (by decide) _ 0 [] rfl O.out ⟨g, 0, none⟩ n n (cQ L) rfl hl.out R'.out h1.out m1.out m2.out hsz ?_; intro v' w' ho hg _))
  go_ret
  refine ⟨⟨_, rfl, OK.out _ _ ho⟩, ?_⟩
  refine Below.grown (new_block (w := w) (.cells #[] 28)) hg hsz fun k hk => ?_
  exact (O.out.lt k hk).1
def encQ (x : Q4) : List Value := [.string ⟨⟨x.1⟩⟩, .string ⟨⟨x.2.1⟩⟩, .string ⟨⟨x.2.2.1⟩⟩, .string ⟨⟨x.2.2.2⟩⟩]
theorem swoQ : Go.Sort.SWO (ltOf cf) where
  irrefl x := by
    have := (cf_to.zero x x).2 rfl
    simp [ltOf, this]
  trans x y z h1 h2 := by
    simp only [ltOf, decide_eq_true_eq] at *
    exact cf_to.lt h1 (by omega)
  ntrans x y z h1 h2 := by
    simp only [ltOf, decide_eq_false_iff_not] at *
    have a := cf_to.anti x y
    have b := cf_to.anti y z
    have c := cf_to.anti x z
    have := cf_to.trans z y x (by omega) (by omega)
    omega
theorem holdsQ {w : World} {B g c n : Nat} {L : List Q4} (hn : n = L.length) (O : w.ownsRow B 28 4 (.slice (some ⟨g, 0, none⟩) n c) n (cQ L)) : Go.Sort.HoldsK encQ 4 w g 0 L.toArray := by
  intro j hj
  have hj' : j < L.length * 4 := by simpa using hj
  rw [Nat.zero_add]
  refine ⟨?_, O.frozenAt j⟩
  rw [O.cellAt j (by omega), Go.Sort.get_flatK _ _ _ _ (by simpa using hj')]
  have hk : j / 4 < L.length := by omega
  obtain ⟨a, b, c, d⟩ := cQ_get L (j / 4) _ (List.getElem?_eq_getElem hk)
  have e : (L.toArray)[j / 4]! = L[j / 4] := by simp [hk]
  rw [e]
  obtain h | h | h | h : j % 4 = 0 ∨ j % 4 = 1 ∨ j % 4 = 2 ∨ j % 4 = 3 := by omega
  · have e2 : (cQ L)[j]? = some (.string ⟨⟨L[j / 4].1⟩⟩) := by rw [← a]; congr 1; omega
    rw [e2, h]; simp [encQ]
  · have e2 : (cQ L)[j]? = some (.string ⟨⟨L[j / 4].2.1⟩⟩) := by rw [← b]; congr 1; omega
    rw [e2, h]; simp [encQ]
  · have e2 : (cQ L)[j]? = some (.string ⟨⟨L[j / 4].2.2.1⟩⟩) := by rw [← c]; congr 1; omega
    rw [e2, h]; simp [encQ]
  · have e2 : (cQ L)[j]? = some (.string ⟨⟨L[j / 4].2.2.2⟩⟩) := by rw [← d]; congr 1; omega
    rw [e2, h]; simp [encQ]
theorem grown_sortQ {w : World} {enc : Q4 → List Value} {k g off m : Nat} {d : Array Q4} {os : Array Obj} : w.grownBy (sortWorldK enc k w g off m d os) (some g) := by
  refine ⟨rfl, rfl, rfl, size_sortWorldK_c enc k w g off m d os, fun j hj hne => ?_⟩
  show ((w.heap.modify g _) ++ os)[j]? = _
  rw [Array.getElem?_append_left (by simpa using hj), Array.getElem?_modify, if_neg (fun e => hne (by rw [e]))]
/-- What a sorted row holds. -/
def Row4 (w : World) (g : Nat) (L : List Q4) : Prop := ∀ (k : Nat) (q : Q4), L[k]? = some q → w.cell? ⟨g, k * 4, none⟩ = some (.string ⟨⟨q.1⟩⟩) ∧ w.cell? ⟨g, k * 4 + 1, none⟩ = some (.string ⟨⟨q.2.1⟩⟩) ∧ w.cell? ⟨g, k * 4 + 2, none⟩ = some (.string ⟨⟨q.2.2.1⟩⟩) ∧ w.cell? ⟨g, k * 4 + 3, none⟩ = some (.string ⟨⟨q.2.2.2⟩⟩)
theorem row_sortQ {w : World} {g m : Nat} {d : Array Q4} {os : Array Obj} {cur : Array Value} {t : TypeId} {fr : Nat × Nat} (h : w.heap[g]? = some (.cells cur t fr)) :
    ∃ cur' : Array Value, (sortWorldK encQ 4 w g 0 m d os).heap[g]? = some (.cells cur' t fr) ∧ cur'.size = cur.size := by
  have hg := (Array.getElem?_eq_some_iff.1 h).1
  refine ⟨Go.Sort.putCells id 0 (Go.Sort.flatK encQ 4 d) cur, ?_, by simp [Go.Sort.putCells]⟩
  show ((w.heap.modify g _) ++ os)[g]? = _
  rw [Array.getElem?_append_left (by simpa using hg), Array.getElem?_modify, if_pos rfl, h]
  rfl
theorem sort_any {w : World} {B g c n : Nat} {L : List Q4} (hn : n = L.length) (h9 : n ≤ 1000) (O : w.ownsRow B 28 4 (.slice (some ⟨g, 0, none⟩) n c) n (cQ L)) (hg : g < w.heap.size) :
    Calls Tryd.prog 24 #[.slice (some ⟨g, 0, none⟩) n c, .func (.func 13) #[] #[]] w fun e w' => e = .returned (.tuple #[]) ∧ ∃ L', L'.length = n ∧ L.Perm L' ∧ (∀ (i j : Nat) (p q : Q4), i < j → L'[i]? = some p → L'[j]? = some q → cf p q ≤ 0) ∧ w'.ownsRow B 28 4 (.slice (some ⟨g, 0, none⟩) n c) n (cQ L') ∧ w.grownBy w' (some g) := by
  have eg : ∀ args w, (callFunc 13 args).run Tryd.prog w = .ok (.enter 13 args) w := enters_of Tryd.func13 (by kernel_rfl) rfl
  have hH := holdsQ hn O
  have hcon := AnyQ.slices_SortFunc SrcK.lays 4 Tryd.isAgg28 Tryd.sizeOf28 encQ (fun _ => rfl) (fun x v hv => by simp [encQ] at hv; rcases hv with rfl | rfl | rfl | rfl <;> rfl) cf swoQ 13 #[] g 0 c L.toArray w eg (fun _ _ _ _ x y => compare_gr x.1 x.2.1 x.2.2.1 x.2.2.2 y.1 y.2.1 y.2.2.1 y.2.2.2 (cf x y) rfl _) hH hg (by simp; omega)
  change Calls Tryd.prog 24 _ _ _ at hcon
  have es : L.toArray.size = n := by simp [hn]
  rw [es] at hcon
  refine hcon.mono ?_
  rintro e w' ⟨rfl, d', m, os, ⟨p1, _, p3⟩, hs, rfl⟩
  have hsz : d'.size = n := by rw [p1, es]
  have hH' := holdsK_sortWorldK_c encQ 4 w g 0 L.toArray d' m os hH hg (by rw [hsz, es])
  refine ⟨rfl, d'.toList, by simpa using hsz, ?_, ?_, ?_, grown_sortQ⟩
  · have a : (d'.extract 0 n).toList = d'.toList := by rw [← hsz]; simp
    have b : (L.toArray.extract 0 n).toList = L := by rw [hn]; simp
    rw [a, b] at p3
    exact p3.symm
  · intro i j p q hij hp hq
    have hi : i < d'.size := by simpa using (List.getElem?_eq_some_iff.1 hp).1
    have hj : j < d'.size := by simpa using (List.getElem?_eq_some_iff.1 hq).1
    have := hs i j (Nat.zero_le _) hij (by omega)
    have e1 : d'[i]! = p := by rw [getElem!_pos d' i hi]; exact (Array.getElem?_eq_some_iff.1 (by simpa using hp)).2
    have e2 : d'[j]! = q := by rw [getElem!_pos d' j hj]; exact (Array.getElem?_eq_some_iff.1 (by simpa using hq)).2
    rw [e1, e2] at this
    simp only [ltOf, decide_eq_false_iff_not] at this
    have := cf_to.anti p q
    omega
  · have R4 : Row4 (sortWorldK encQ 4 w g 0 m d' os) g d'.toList := fun k p hp => by
      have hk : k < d'.size := by simpa using (List.getElem?_eq_some_iff.1 hp).1
      have e1 : d'[k]! = p := by rw [getElem!_pos d' k hk]; exact (Array.getElem?_eq_some_iff.1 (by simpa using hp)).2
      have a := (hH'.cell (i := k) (c := 0) hk (by omega)).1
      have b := (hH'.cell (i := k) (c := 1) hk (by omega)).1
      have c := (hH'.cell (i := k) (c := 2) hk (by omega)).1
      have d := (hH'.cell (i := k) (c := 3) hk (by omega)).1
      rw [e1, Nat.zero_add] at a b c d
      exact ⟨a, b, c, d⟩
    obtain ⟨h1, h2⟩ := O
    have hl : d'.toList.length = n := by simpa using hsz
    refine ⟨by rw [cQ_length, hl], ?_⟩
    rcases h2 with ⟨h3, _⟩ | ⟨g', cap, cur, h3, h4, h5, h6, h7, h8, h9'⟩
    · cases h3
    · obtain ⟨rfl, rfl⟩ : g = g' ∧ c = cap := by cases h3; exact ⟨rfl, rfl⟩
      obtain ⟨cur', k1, k2⟩ := row_sortQ (m := m) (d := d') (os := os) h5
      refine .inr ⟨g, c, cur', rfl, h4, k1, h6, h7, k2.trans h8, ?_⟩
      apply List.ext_getElem?
      intro j
      have hcl : (cQ d'.toList).length = n * 4 := by rw [cQ_length, hl]
      by_cases hj : j < n * 4
      · rw [List.getElem?_take, if_pos hj]
        have hkk : j / 4 < d'.toList.length := by omega
        obtain ⟨q0, q1, q2, q3⟩ := R4 (j / 4) _ (List.getElem?_eq_getElem hkk)
        obtain ⟨c0, c1, c2, c3⟩ := cQ_get d'.toList (j / 4) _ (List.getElem?_eq_getElem hkk)
        have hcell : ∀ i, (sortWorldK encQ 4 w g 0 m d' os).cell? ⟨g, i, none⟩ = cur'.toList[i]? := fun i => by rw [cell_of_row _ g i _ _ _ k1]; simp
        rw [hcell] at q0 q1 q2 q3
        obtain h | h | h | h : j = j / 4 * 4 ∨ j = j / 4 * 4 + 1 ∨ j = j / 4 * 4 + 2 ∨ j = j / 4 * 4 + 3 := by omega
        · rw [h, q0, c0]
        · rw [h, q1, c1]
        · rw [h, q2, c2]
        · rw [h, q3, c3]
      · rw [List.getElem?_take, if_neg hj, List.getElem?_eq_none (by omega)]
end Sc
end Go.Proofs.YtppbejebmlcloaaDoor
