/- link.insert at the end, Send that inserts at the end. -/
import Derived.Test.YtjgbidnijfecoaaLnkD
import Derived.Test.YtjgbidnijfecoaaRes
set_option linter.unusedVariables false
set_option linter.unusedSimpArgs false
namespace Go.Proofs.Ytjgbidnijfecoaa
open Go.RowKit Wi Dice
namespace Lnk
theorem grown_trans {w w1 w2 : World} {r : Option Nat} (h : w.grownBy w1 r) (k : w1.grownBy w2 r) : w.grownBy w2 r := h.trans k
set_option maxRecDepth 100000 in
set_option maxHeartbeats 4000000 in
theorem insert_end {B : Nat} {w : World} {v : Value} {L : List (Int × Int × ByteArray)} (x y : Int) (s : ByteArray) (h : OwnT w B v L) (hB : B ≤ w.heap.size) (hl : ∀ (k : Nat) (p : Int × Int × ByteArray), L[k]? = some p → p.1 < x ∨ (p.1 = x ∧ p.2.1 < y)) (h9 : L.length ≤ 1024) :
    Calls Try.prog 23 #[v, .agg #[.int .i64 x, .int .i64 y, .string s]] w fun e w' => (∃ r, e = .returned r ∧ OwnT w' B r (L ++ [(x, y, s)])) ∧ w.grownBy w' v.ownBlock := by
  have O := Lib.hid h
  have HL := Lib.hid hl
  have B0 := Lib.hid (heap_alloc_new w (.cells #[.int .i64 x, .int .i64 y, .string s] 55))
  have W0 : Hid (Below w.heap.size w (w.alloc (.cells #[.int .i64 x, .int .i64 y, .string s] 55))) := Lib.hid (new_block _)
  obtain ⟨w1, hw1⟩ : ∃ w1, w1 = w.alloc (.cells #[.int .i64 x, .int .i64 y, .string s] 55) := ⟨_, rfl⟩
  rw [← hw1] at B0 W0
  have O1 := Lib.hid (own_below O.out W0.out)
  replace hw1 := Lib.hid hw1
  clear h hl
  go_enter Try.func23, Try.ntmps23
  go_upto_region 1 with fail
  rw [← hw1.out]
  obtain ⟨k0, k1, k2⟩ := c3 B0.out
  go_wp2_with fail
  refine (search_end x y s (its_of_own O1.out) HL.out h9).mono ?_
  rintro e w2 ⟨rfl, hb2⟩
  have B2 := Lib.hid (hb hb2 B0.out)
  have W2 := Lib.hid (Buf.then_ W0.out hb2)
  have O2 := Lib.hid (own_below O1.out hb2)
  clear hb2 k0 k1 k2 O1 B0 W0 hw1
  obtain ⟨k0, k1, k2⟩ := c3 B2.out
  have N2 := Lib.hid (heap_alloc_new w2 (.cells #[.int .i64 x, .int .i64 y, .string s] 55))
  have W3 : Hid (Below w2.heap.size w2 (w2.alloc (.cells #[.int .i64 x, .int .i64 y, .string s] 55))) := Lib.hid (new_block _)
  have O3 := Lib.hid (own_below O2.out W3.out)
  have hB3 : B ≤ (w2.alloc (.cells #[.int .i64 x, .int .i64 y, .string s] 55)).heap.size := by have := W2.out.size; simp; omega
  have II := Lib.hid (Insert_end x y s w2.heap.size O3.out hB3 N2.out h9)
  clear hB3
  go_wp2_with fail
  refine II.out.mono ?_
  rintro e w4 ⟨⟨r, rfl, hr⟩, hg⟩
  have G4 := Lib.hid ((grown_of_below (Buf.then_ W2.out W3.out)).trans hg)
  replace hr := Lib.hid hr
  clear hg k0 k1 k2 II
  go_wp2_with fail
  go_ret
  exact ⟨⟨_, rfl, hr.out⟩, G4.out⟩
theorem own_form {w : World} {B sz : Nat} {e : TypeId} {v : Value} {n : Nat} {xs : List Value} (h : w.ownsRow B e sz v n xs) : ∃ a c, v = .slice a n c := by
  rcases own_shape h with ⟨rfl, rfl⟩ | ⟨g, c, rfl, _⟩
  · exact ⟨none, 0, rfl⟩
  · exact ⟨_, c, rfl⟩
theorem own_letter {w : World} {B sz : Nat} {e : TypeId} {v : Value} {n : Nat} {xs : List Value} (h : w.ownsRow B e sz v n xs) : ∃ a m c, v = .slice a m c ∧ Hid (m = n) := by
  obtain ⟨a, c, h⟩ := own_form h
  exact ⟨a, n, c, h, Lib.hid rfl⟩
/-- The messages that Send adds. -/
def news (x y : Int) (s : ByteArray) (n : Nat) : List (Int × Int × ByteArray) := (List.range n).map fun i : Nat => (x + (i : Int), y, s)
theorem news_succ (x y : Int) (s : ByteArray) (n : Nat) : news x y s (n + 1) = news x y s n ++ [(x + (n : Int), y, s)] := by simp [news, List.range_succ]
theorem news_len (x y : Int) (s : ByteArray) (n : Nat) : (news x y s n).length = n := by simp [news]
theorem news_get {x y : Int} {s : ByteArray} {n k : Nat} {p : Int × Int × ByteArray} (h : (news x y s n)[k]? = some p) : k < n ∧ p = (x + (k : Int), y, s) := by
  have hk : k < n := by have := (List.getElem?_eq_some_iff.1 h).1; rwa [news_len] at this
  refine ⟨hk, ?_⟩
  simp [news, hk] at h
  exact h.symm
theorem both_get {L M : List (Int × Int × ByteArray)} {k : Nat} {p : Int × Int × ByteArray} (h : (L ++ M)[k]? = some p) : L[k]? = some p ∨ (L.length ≤ k ∧ M[k - L.length]? = some p) := by
  by_cases hk : k < L.length
  · left; rwa [List.getElem?_append_left hk] at h
  · right; exact ⟨by omega, by rwa [List.getElem?_append_right (by omega)] at h⟩
theorem below_end {now ord dl : Int} {s : ByteArray} {L : List (Int × Int × ByteArray)} (G : Good now ord L) (he : ∀ (k : Nat) (p : Int × Int × ByteArray), L[k]? = some p → p.1 ≤ now + 1 + dl) (n : Nat) :
    ∀ (k : Nat) (p : Int × Int × ByteArray), (L ++ news (now + 1 + dl) ord s n)[k]? = some p → p.1 < now + 1 + dl + (n : Int) ∨ (p.1 = now + 1 + dl + (n : Int) ∧ p.2.1 < ord) := by
  intro k p hp
  rcases both_get hp with h | ⟨_, h⟩
  · have h1 := he k p h
    obtain ⟨_, _, _, _, h2⟩ := G.it k p h
    omega
  · obtain ⟨h1, rfl⟩ := news_get h
    simp only
    omega
theorem good_more {now ord dl : Int} {s : ByteArray} {L : List (Int × Int × ByteArray)} (G : Good now ord L) (he : ∀ (k : Nat) (p : Int × Int × ByteArray), L[k]? = some p → p.1 ≤ now + 1 + dl) (d0 : 0 ≤ dl) (n : Nat) (hs : s.size ≤ 4096) (hn : L.length + n ≤ 1024) (h9 : now + 1 + dl + n ≤ 1000000) (ho : ord < 1000000) :
    Good now (ord + 1) (L ++ news (now + 1 + dl) ord s n) := by
  obtain ⟨n0, n1, o0, o1, hl, it, asc⟩ := G
  refine ⟨n0, n1, by omega, by omega, by rw [List.length_append, news_len]; exact hn, fun k p hp => ?_, fun k p q hp hq => ?_⟩
  · rcases both_get hp with h | ⟨_, h⟩
    · obtain ⟨a, b, c, d, e⟩ := it k p h
      exact ⟨a, b, c, d, by omega⟩
    · obtain ⟨h1, rfl⟩ := news_get h
      simp only
      omega
  · rcases both_get hp with h | ⟨h0, h⟩
    · rcases both_get hq with h' | ⟨_, h'⟩
      · exact asc k p q h h'
      · obtain ⟨h1, rfl⟩ := news_get h'
        have h1 := he k p h
        obtain ⟨_, _, _, _, h2⟩ := it k p h
        simp only
        omega
    · rcases both_get hq with h' | ⟨_, h'⟩
      · have := (List.getElem?_eq_some_iff.1 h').1; omega
      · obtain ⟨h1, rfl⟩ := news_get h
        obtain ⟨h2, rfl⟩ := news_get h'
        simp only
        omega
theorem st3 {w : World} {g : Nat} {x y z : Value} {t : TypeId} (h : w.heap[g]? = some (.cells #[x, y, z] t (0, 0))) (v : Value) :
    (w.setCell ⟨g, 0, none⟩ v).heap[g]? = some (.cells #[v, y, z] t (0, 0)) ∧ (w.setCell ⟨g, 1, none⟩ v).heap[g]? = some (.cells #[x, v, z] t (0, 0)) ∧ (w.setCell ⟨g, 2, none⟩ v).heap[g]? = some (.cells #[x, y, v] t (0, 0)) :=
  ⟨(heap_setCell_same w g 0 _ _ v h).trans rfl, (heap_setCell_same w g 1 _ _ v h).trans rfl, (heap_setCell_same w g 2 _ _ v h).trans rfl⟩
theorem st3all {w : World} {g : Nat} {x y z : Value} {t : TypeId} (h : w.heap[g]? = some (.cells #[x, y, z] t (0, 0))) (a b c : Value) :
    (((w.setCell ⟨g, 0, none⟩ a).setCell ⟨g, 1, none⟩ b).setCell ⟨g, 2, none⟩ c).heap[g]? = some (.cells #[a, b, c] t (0, 0)) := (st3 (st3 (st3 h a).1 b).2.1 c).2.2
theorem f3 {w : World} {g : Nat} {x y z : Value} {t : TypeId} (h : w.heap[g]? = some (.cells #[x, y, z] t (0, 0))) : w.frozen? ⟨g, 0, none⟩ = false ∧ w.frozen? ⟨g, 1, none⟩ = false ∧ w.frozen? ⟨g, 2, none⟩ = false :=
  ⟨frozen_of_row w g 0 _ _ h, frozen_of_row w g 1 _ _ h, frozen_of_row w g 2 _ _ h⟩
theorem st_far {w : World} {g b o : Nat} {x : Obj} (h : w.heap[b]? = some x) (hne : b ≠ g) (v : Value) : (w.setCell ⟨g, o, none⟩ v).heap[b]? = some x := (Below.heap_setCell w ⟨g, o, none⟩ v b hne).trans h
theorem own_far {w : World} {B sz g o : Nat} {e : TypeId} {v : Value} {n : Nat} {xs : List Value} (h : w.ownsRow B e sz v n xs) (hg : g < B) (u : Value) : (w.setCell ⟨g, o, none⟩ u).ownsRow B e sz v n xs :=
  own_kept h fun k hk => Below.heap_setCell w ⟨g, o, none⟩ u k (by have := (h.lt k hk).1; show k ≠ g; omega)
theorem own_far3 {w : World} {B sz g : Nat} {e : TypeId} {v : Value} {n : Nat} {xs : List Value} (h : w.ownsRow B e sz v n xs) (hg : g < B) (a b c : Value) : (((w.setCell ⟨g, 0, none⟩ a).setCell ⟨g, 1, none⟩ b).setCell ⟨g, 2, none⟩ c).ownsRow B e sz v n xs :=
  own_far (own_far (own_far h hg a) hg b) hg c
theorem below_set3 {B g : Nat} {w0 w : World} (h : Below B w0 w) (hg : B ≤ g) (a b c : Value) : Below B w0 (((w.setCell ⟨g, 0, none⟩ a).setCell ⟨g, 1, none⟩ b).setCell ⟨g, 2, none⟩ c) :=
  ((h.setCell (p := ⟨g, 0, none⟩) hg a).setCell (p := ⟨g, 1, none⟩) hg b).setCell (p := ⟨g, 2, none⟩) hg c
theorem own_grow {w w' : World} {B : Nat} {v : Value} {n : Nat} {e : TypeId} {sz : Nat} {xs : List Value} {b : Nat} {o : Obj} (h : w.ownsRow B e sz v n xs) (hg : w.grownBy w' v.ownBlock) (hb : w.heap[b]? = some o) (hB : b < B) : w'.heap[b]? = some o :=
  (hg.block b (Array.getElem?_eq_some_iff.1 hb).1 (fun he => by have := (h.lt b he.symm).1; omega)).trans hb
set_option maxRecDepth 100000 in
set_option maxHeartbeats 8000000 in
theorem send_end {B : Nat} {w : World} {v : Value} {L : List (Int × Int × ByteArray)} (now ord dl cp : Int) (s : ByteArray) (b : Bool) (n : Nat) (hn : (n : Int) = if b then 0 else 1 + cp) (G : Good now ord L) (h : Its B w v L)
    (he : ∀ (k : Nat) (p : Int × Int × ByteArray), L[k]? = some p → p.1 ≤ now + 1 + dl) (d0 : 0 ≤ dl) (d1 : dl ≤ 1000) (c0 : 0 ≤ cp) (c1 : cp ≤ 8) (hs : s.size ≤ 4096) (ho : ord ≤ 1000) (hw : now ≤ 1000) (hl9 : L.length ≤ 1000) :
    Calls Try.prog 12 #[.agg #[.int .i64 now, .int .i64 ord, v], .string s, .agg #[.bool b, .int .i64 dl, .int .i64 cp]] w fun e w' => (∃ r, e = .returned (.tuple #[.agg #[.int .i64 now, .int .i64 (ord + 1), r], .int .i64 0]) ∧ OwnT w' w.heap.size r (L ++ news (now + 1 + dl) ord s n)) ∧ Below w.heap.size w w' := by
  have HG := Lib.hid G
  have HI := Lib.hid h
  have HE := Lib.hid (fun n => below_end (s := s) G he n)
  have AR := Lib.hid fun w => arrivals_any b dl cp c0 c1 n hn w
  have hn9 : n ≤ 9 := by cases b <;> simp at hn <;> omega
  obtain ⟨n0, n1, o0, o1, hlen, _, _⟩ := G
  obtain ⟨w3, hw3⟩ : ∃ w3, w3 = ((w.alloc (.cells #[.int .i64 now, .int .i64 ord, v] 29)).alloc (.cells #[.bool b, .int .i64 dl, .int .i64 cp] 32)).alloc (.cells #[.int .i64 0, .int .i64 0, .slice none 0 0] 29) := ⟨_, rfl⟩
  have e1 : (w.alloc (.cells #[.int .i64 now, .int .i64 ord, v] 29)).heap.size = w.heap.size + 1 := by simp
  have e2 : ((w.alloc (.cells #[.int .i64 now, .int .i64 ord, v] 29)).alloc (.cells #[.bool b, .int .i64 dl, .int .i64 cp] 32)).heap.size = w.heap.size + 2 := by simp
  have W0 := Lib.hid (show Below w.heap.size w w3 by rw [hw3]; exact ((new_block _).alloc (by simp) _).alloc (by simp; omega) _)
  have P0 := Lib.hid (show w3.heap[w.heap.size]? = some (.cells #[.int .i64 now, .int .i64 ord, v] 29 (0, 0)) by rw [hw3]; exact (heap_alloc_old _ _ (by simp; omega)).trans ((heap_alloc_old _ _ (by simp)).trans (heap_alloc_new w _)))
  have P1 := Lib.hid (show w3.heap[w.heap.size + 1]? = some (.cells #[.bool b, .int .i64 dl, .int .i64 cp] 32 (0, 0)) by rw [hw3]; exact (heap_alloc_old _ _ (by simp)).trans (by rw [← e1]; exact heap_alloc_new _ _))
  have P2 := Lib.hid (show w3.heap[w.heap.size + 2]? = some (.cells #[.int .i64 0, .int .i64 0, .slice none 0 0] 29 (0, 0)) by rw [hw3, ← e2]; exact heap_alloc_new _ _)
  have z3 : w3.heap.size = w.heap.size + 3 := by rw [hw3]; simp
  clear h he hn
  go_enter Try.func12, Try.ntmps12
  go_upto_region 1 with fail
  clear e1 e2
  rw [← hw3]
  clear hw3
  obtain ⟨k0, k1, k2⟩ := c3 P0.out
  obtain ⟨l0, l1, l2⟩ := c3 P1.out
  go_wp2_with fail
  refine (valid_yes now ord HG.out (HI.out.below W0.out)).mono ?_
  rintro e w4 ⟨rfl, hb4⟩
  have z4 := hb4.size
  replace P0 := Lib.hid (hb hb4 P0.out)
  replace P1 := Lib.hid (hb hb4 P1.out)
  replace P2 := Lib.hid (hb hb4 P2.out)
  replace W0 := Lib.hid (Buf.then_ W0.out hb4)
  clear hb4 k0 k1 k2 l0 l1 l2
  obtain ⟨l0, l1, l2⟩ := c3 P1.out
  go_wp2_with fail
  refine (validFault_any b dl cp d0 (by omega) c0 c1 _).mono ?_
  rintro e w5 ⟨rfl, hb4⟩
  have z5 := hb4.size
  replace P0 := Lib.hid (hb hb4 P0.out)
  replace P1 := Lib.hid (hb hb4 P1.out)
  replace P2 := Lib.hid (hb hb4 P2.out)
  replace W0 := Lib.hid (Buf.then_ W0.out hb4)
  clear hb4 l0 l1 l2
  obtain ⟨l0, l1, l2⟩ := c3 P1.out
  go_wp2_with fail
  refine (AR.out _).mono ?_
  rintro e w6 ⟨rfl, hb4⟩
  have z6 := hb4.size
  replace P0 := Lib.hid (hb hb4 P0.out)
  replace P1 := Lib.hid (hb hb4 P1.out)
  replace P2 := Lib.hid (hb hb4 P2.out)
  replace W0 := Lib.hid (Buf.then_ W0.out hb4)
  clear hb4 l0 l1 l2
  obtain ⟨k0, k1, k2⟩ := c3 P0.out
  have d5 : (ord == 1099511627776) = false := by rw [beq_eq_false_iff_ne]; omega
  obtain ⟨a, lv, cv, rfl, hlv⟩ : ∃ a lv cv, v = .slice a lv cv ∧ lv = L.length := by
    rcases HI.out with ⟨h1, h2⟩ | ⟨g, c, h1, _⟩
    · exact ⟨_, _, _, h1, by rw [h2]; rfl⟩
    · exact ⟨_, _, _, h1, rfl⟩
  have hlv' : lv ≤ 1000 := by omega
  replace hlv := Lib.hid hlv
  go_wp2_with fail
  refine (clone_any (rd_of_its (HI.out.below W0.out)) (by omega)).mono ?_
  rintro e w7 ⟨⟨r, rfl, hr⟩, hb4⟩
  have z7 := hb4.size
  replace P0 := Lib.hid (hb hb4 P0.out)
  replace P1 := Lib.hid (hb hb4 P1.out)
  replace P2 := Lib.hid (hb hb4 P2.out)
  replace W0 := Lib.hid (Buf.then_ W0.out hb4)
  replace hr := Lib.hid (own_mono hr (B' := w.heap.size + 3) (by omega))
  obtain ⟨ra, rm, rc, rfl, hrm⟩ := own_letter hr.out
  clear hb4 k0 k1 k2 d5
  obtain ⟨k0, k1, k2⟩ := c3 P0.out
  obtain ⟨j0, j1, j2⟩ := f3 P0.out
  go_wp2_with fail
  clear k0 k1 k2 j0 j1 j2
  go_loopw [43] (fun i wr => ∃ (k : Nat) (r : Value), i = .int .i64 (k : Int) ∧ k ≤ n ∧ Hid (OwnT wr (w.heap.size + 3) r (L ++ news (now + 1 + dl) ord s k)) ∧ Hid (wr.heap[w.heap.size]? = some (.cells #[.int .i64 now, .int .i64 ord, r] 29 (0, 0))) ∧ Hid (wr.heap[w.heap.size + 1]? = some (.cells #[.bool b, .int .i64 dl, .int .i64 cp] 32 (0, 0))) ∧ Hid (wr.heap[w.heap.size + 2]? = some (.cells #[.int .i64 0, .int .i64 0, .slice none 0 0] 29 (0, 0))) ∧ Hid (Below w.heap.size w wr)) (fun i _ => n - (intOf i).toNat)
  case atStart =>
    exact ⟨0, _, rfl, Nat.zero_le _, Lib.hid (by have h5 := own_far (g := w.heap.size) (o := 2) hr.out (by omega) (.slice ra rm rc); simpa [OwnT, news] using h5), Lib.hid (st3 P0.out _).2.2, Lib.hid (st_far P1.out (by omega) _), Lib.hid (st_far P2.out (by omega) _), Lib.hid (W0.out.setCell (Nat.le_refl _) _)⟩
  case round =>
    clear P0 P1 P2 W0 hr z3 z4 z5 z6 z7
    obtain ⟨k, r2, rfl, hk, O, P0, P1, P2, W0⟩ := hrel
    obtain ⟨ra2, rm2, rc2, rfl, hrm2⟩ := own_letter O.out
    have zr := (Array.getElem?_eq_some_iff.1 P2.out).1
    by_cases hlt : k < n
    · obtain ⟨k0, k1, k2⟩ := c3 P0.out
      obtain ⟨l0, l1, l2⟩ := c3 P1.out
      go_wp2_with fail
      refine (insert_end (now + 1 + dl + (k : Int)) ord s O.out (by omega) (HE.out k) (by rw [List.length_append, news_len]; omega)).mono ?_
      rintro e w8 ⟨⟨r3, rfl, hr3⟩, hg⟩
      have Q0 := Lib.hid (own_grow O.out hg P0.out (by omega))
      have Q1 := Lib.hid (own_grow O.out hg P1.out (by omega))
      have Q2 := Lib.hid (own_grow O.out hg P2.out (by omega))
      have W8 := Lib.hid (W0.out.grown hg (by omega) fun q hq => by have := (O.out.lt q hq).1; omega)
      rw [List.append_assoc, ← news_succ] at hr3
      obtain ⟨ra3, rm3, rc3, rfl, hrm3⟩ := own_letter hr3
      replace hr3 := Lib.hid hr3
      clear hg k0 k1 k2 l0 l1 l2
      obtain ⟨k0, k1, k2⟩ := c3 Q0.out
      obtain ⟨j0, j1, j2⟩ := f3 Q0.out
      go_wp2_with fail
      go_roundw
      case rel => exact ⟨k + 1, _, by go_num, by omega, Lib.hid (own_far hr3.out (by omega) _), Lib.hid (st3 Q0.out _).2.2, Lib.hid (st_far Q1.out (by omega) _), Lib.hid (st_far Q2.out (by omega) _), Lib.hid (W8.out.setCell (Nat.le_refl _) _)⟩
      case measure => simp [intOf]; omega
    · obtain rfl : k = n := by omega
      obtain ⟨k0, k1, k2⟩ := c3 P0.out
      obtain ⟨j0, j1, j2⟩ := f3 P0.out
      have R0 := Lib.hid (st3 P0.out (.int .i64 (ord + 1))).2.1
      have R2 := Lib.hid (st_far (g := w.heap.size) (o := 1) P2.out (by omega) (.int .i64 (ord + 1)))
      have OR := Lib.hid (own_far (g := w.heap.size) (o := 1) O.out (by omega) (.int .i64 (ord + 1)))
      have WR := Lib.hid (W0.out.setCell (p := ⟨w.heap.size, 1, none⟩) (Nat.le_refl _) (.int .i64 (ord + 1)))
      go_upto_region 13 with fail
      clear k0 k1 k2 j0 j1 j2
      generalize wr.setCell ⟨w.heap.size, 1, none⟩ (.int .i64 (ord + 1)) = w9 at *
      obtain ⟨k0, k1, k2⟩ := c3 R0.out
      obtain ⟨m0, m1, m2⟩ := c3 R2.out
      obtain ⟨j0, j1, j2⟩ := f3 R2.out
      have Z := Lib.hid (st3all R2.out (.int .i64 now) (.int .i64 (ord + 1)) (.slice ra2 rm2 rc2))
      have OZ := Lib.hid (own_mono (own_far3 (g := w.heap.size + 2) OR.out (by omega) (.int .i64 now) (.int .i64 (ord + 1)) (.slice ra2 rm2 rc2)) (B' := w.heap.size) (by omega))
      have WZ := Lib.hid (below_set3 (g := w.heap.size + 2) WR.out (by omega) (.int .i64 now) (.int .i64 (ord + 1)) (.slice ra2 rm2 rc2))
      go_wp2
      exact bodyPost_ret (Res.row_tmp rfl _ _ (w.heap.size + 2) _ _ _ _ rfl Z.out rfl (by rfl) rfl) rfl ⟨⟨_, rfl, OZ.out⟩, WZ.out⟩
end Lnk
end Go.Proofs.Ytjgbidnijfecoaa
