/- Patterns of identifiers: what ? and * match; the memory of SourcePatterns. -/
import Derived.Test.YtppbejebmlcloaaDoorSrcH
import Derived.Test.YtppbejebmlcloaaDoorSourceBackWalk
import Derived.RegionTactic
import Derived.Test.YtppbejebmlcloaaDoorInv
set_option linter.unusedVariables false
set_option linter.unusedSimpArgs false
namespace Go.Proofs.YtppbejebmlcloaaDoor
open Go.RowKit Dice
namespace Sc
theorem cut_at : ∀ (l : List UInt8) (j : Nat), j < l.length → ∃ u x v, u.length = j ∧ l = u ++ x :: v
  | [], j, h => absurd h (Nat.not_lt_zero _)
  | y :: l, 0, _ => ⟨[], y, l, rfl, rfl⟩
  | y :: l, j + 1, h => by
    obtain ⟨u, x, v, hu, e⟩ := cut_at l j (by simpa using h)
    exact ⟨y :: u, x, v, by simp [hu], by rw [e]; rfl⟩
theorem cut_head {s u v : List UInt8} {x : UInt8} {j : Nat} (e : s = u ++ x :: v) (h : u.length = j) : (ByteArray.mk ⟨s⟩).extract 0 j = ⟨⟨u⟩⟩ := by
  subst e h
  apply ByteArray.ext
  rw [ByteArray.data_extract]
  apply Array.ext'
  simp
theorem cut_tail {s u v : List UInt8} {x : UInt8} {j : Nat} (e : s = u ++ x :: v) (h : u.length = j) : (ByteArray.mk ⟨s⟩).extract (j + 1) s.length = ⟨⟨v⟩⟩ := by
  subst e h
  apply ByteArray.ext
  rw [ByteArray.data_extract]
  apply Array.ext'
  simp
  exact List.take_of_length_le (by omega)
theorem mp_pre : ∀ (u p c : List UInt8) (n : Nat), (∀ b ∈ u, b ≠ 42) → mp (n + u.length) (u ++ p) (u ++ c) = mp n p c
  | [], p, c, n, _ => rfl
  | y :: u, p, c, n, h => by
    show mp (n + u.length + 1) (y :: (u ++ p)) (y :: (u ++ c)) = _
    rw [mp_cons _ _ _ _ _ (h y (List.mem_cons_self ..)), mp_pre u p c n fun b hb => h b (List.mem_cons_of_mem _ hb)]
    simp
theorem mp_17 {u : List UInt8} (p c : List UInt8) (h : ∀ b ∈ u, b ≠ 42) (hl : u.length ≤ 5) : mp 17 (u ++ p) (u ++ c) = mp (17 - u.length) p c := by
  have := mp_pre u p c (17 - u.length) h
  rwa [show 17 - u.length + u.length = 17 by omega] at this
theorem cat1 (s0 u v s2 s3 : List UInt8) : (⟨⟨s0⟩⟩ ++ ⟨#[46]⟩ ++ ⟨⟨u⟩⟩ ++ ⟨#[63]⟩ ++ ⟨⟨v⟩⟩ ++ ⟨#[46]⟩ ++ ⟨⟨s2⟩⟩ ++ ⟨#[46]⟩ ++ ⟨⟨s3⟩⟩ : ByteArray) = ⟨⟨j4 s0 (u ++ 63 :: v) s2 s3⟩⟩ := by
  apply ByteArray.ext
  apply Array.ext'
  simp [j4]
theorem cat2 (s0 u s2 : List UInt8) : (⟨⟨s0⟩⟩ ++ ⟨#[46]⟩ ++ ⟨⟨u⟩⟩ ++ ⟨#[42, 46]⟩ ++ ⟨⟨s2⟩⟩ ++ ⟨#[46, 42]⟩ : ByteArray) = ⟨⟨j4 s0 (u ++ [42]) s2 [42]⟩⟩ := by
  apply ByteArray.ext
  apply Array.ext'
  simp [j4]
theorem cat3 (s0 s1 s2 s3 : List UInt8) : (⟨⟨s0⟩⟩ ++ ⟨#[46]⟩ ++ ⟨⟨s1⟩⟩ ++ ⟨#[63, 46]⟩ ++ ⟨⟨s2⟩⟩ ++ ⟨#[46]⟩ ++ ⟨⟨s3⟩⟩ : ByteArray) = ⟨⟨j4 s0 (s1 ++ [63]) s2 s3⟩⟩ := by
  apply ByteArray.ext
  apply Array.ext'
  simp [j4]
theorem pats {s0 s1 s2 s3 u v : List UInt8} {x : UInt8} {j : Nat} (h : Src4 s0 s1 s2 s3) (e : s1 = u ++ x :: v) (hj : u.length = j) :
    (∀ w', Mx w' → Calls Tryd.prog 12 #[.string ⟨⟨j4 s0 (u ++ 63 :: v) s2 s3⟩⟩, .agg #[.string ⟨⟨s0⟩⟩, .string ⟨⟨s1⟩⟩, .string ⟨⟨s2⟩⟩, .string ⟨⟨s3⟩⟩]] w' fun e w'' => e = .returned (.tuple #[.bool true, .int .i64 0]) ∧ Below w'.heap.size w' w'') ∧
    (∀ w', Mx w' → Calls Tryd.prog 12 #[.string ⟨⟨j4 s0 (u ++ [42]) s2 [42]⟩⟩, .agg #[.string ⟨⟨s0⟩⟩, .string ⟨⟨s1⟩⟩, .string ⟨⟨s2⟩⟩, .string ⟨⟨s3⟩⟩]] w' fun e w'' => e = .returned (.tuple #[.bool true, .int .i64 0]) ∧ Below w'.heap.size w' w'') ∧
    (∀ w', Mx w' → Calls Tryd.prog 12 #[.string ⟨⟨j4 s0 (s1 ++ [63]) s2 s3⟩⟩, .agg #[.string ⟨⟨s0⟩⟩, .string ⟨⟨s1⟩⟩, .string ⟨⟨s2⟩⟩, .string ⟨⟨s3⟩⟩]] w' fun e w'' => e = .returned (.tuple #[.bool false, .int .i64 0]) ∧ Below w'.heap.size w' w'') ∧
    (Part (u ++ [42]) ∧ m4 s0 (u ++ [42]) s2 [42] s0 s1 s2 s3 = true) := by
  have hz := h.len
  have l1 := h.l1
  have lu : u.length + (v.length + 1) = s1.length := by rw [e]; simp
  have cu : ∀ b ∈ u, cap (b.toNat : Int) = true := fun b hb => h.c1.byte (by rw [e]; exact List.mem_append_left _ hb)
  have cv : Code v := code_of fun b hb => h.c1.byte (by rw [e]; exact List.mem_append_right _ (List.mem_cons_of_mem _ hb))
  have n1 : ∀ b ∈ s1, b ≠ 42 := fun b hb => (cap_ne (h.c1.byte hb)).1
  have nu : ∀ b ∈ u, b ≠ 42 := fun b hb => (cap_ne (cu b hb)).1
  have p1 : Part (u ++ 63 :: v) := ⟨by simp; omega, fun b hb => by
    rcases List.mem_append.1 hb with hb | hb
    · exact .inl (cu b hb)
    · rcases List.mem_cons.1 hb with rfl | hb
      · exact .inr (.inl rfl)
      · exact .inl (cv.byte hb)⟩
  have p2 : Part (u ++ [42]) := ⟨by simp; omega, fun b hb => by
    rcases List.mem_append.1 hb with hb | hb
    · exact .inl (cu b hb)
    · simp at hb; subst hb; exact .inr (.inr rfl)⟩
  have p3 : Part (s1 ++ [63]) := ⟨by simp; omega, fun b hb => by
    rcases List.mem_append.1 hb with hb | hb
    · exact .inl (h.c1.byte hb)
    · simp at hb; subst hb; exact .inr (.inl rfl)⟩
  have a0 : mp 17 s0 s0 = true := by rw [mp_code 17 s0 s0 h.c0 (by omega)]; simp
  have a2 : mp 17 s2 s2 = true := by rw [mp_code 17 s2 s2 h.c2 (by omega)]; simp
  have a3 : mp 17 s3 s3 = true := by rw [mp_code 17 s3 s3 h.c3 (by omega)]; simp
  have a9 : mp 17 [42] s3 = true := mp_all 17 s3 (by omega)
  have b1 : mp 17 (u ++ 63 :: v) s1 = true := by
    rw [e, mp_17 _ _ nu (by omega)]
    obtain ⟨m, hm⟩ : ∃ m, 17 - u.length = m + 1 := ⟨16 - u.length, by omega⟩
    rw [hm, mp_cons _ _ _ _ _ (by decide), mp_code m v v cv (by omega)]
    simp
  have b2 : mp 17 (u ++ [42]) s1 = true := by
    rw [e, mp_17 _ _ nu (by omega)]
    exact mp_all _ _ (by simp; omega)
  have b3 : mp 17 (s1 ++ [63]) s1 = false := by
    have := mp_17 [63] [] n1 l1.2
    rw [List.append_nil] at this
    rw [this]
    obtain ⟨m, hm⟩ : ∃ m, 17 - s1.length = m + 1 := ⟨16 - s1.length, by omega⟩
    rw [hm]
    exact mp_nil m 63 [] (by decide)
  have m1 : m4 s0 (u ++ 63 :: v) s2 s3 s0 s1 s2 s3 = true := by unfold m4; rw [a0, b1, a2, a3]; rfl
  have m2 : m4 s0 (u ++ [42]) s2 [42] s0 s1 s2 s3 = true := by unfold m4; rw [a0, b2, a2, a9]; rfl
  have m3 : m4 s0 (s1 ++ [63]) s2 s3 s0 s1 s2 s3 = false := by unfold m4; rw [a0, b3]; rfl
  refine ⟨fun w' hw => ?_, fun w' hw => ?_, fun w' hw => ?_, p2, m2⟩
  · have := match_src h.p0 p1 h.p2 h.p3 h w' hw
    rwa [m1] at this
  · have := match_src h.p0 p2 h.p2 part_star h w' hw
    rwa [m2] at this
  · have := match_src h.p0 p3 h.p2 h.p3 h w' hw
    rwa [m3] at this
def LV (g : Nat) (s0 s1 s2 s3 : List UInt8) (v : Value) (w : World) : Prop := ∃ (bb : Nat) (t0 t1 t2 t3 : List UInt8), v = .slice (some ⟨bb, 0, none⟩) 3 3 ∧ Src4 t0 t1 t2 t3 ∧ w.heap[bb]? = some (.cells (cQ [(s0, s1, s2, s3), (t0, t1, t2, t3), (s0, s1, s2, s3)]).toArray 28 (0, 0)) ∧ bb ≠ g
theorem LV.next {g : Nat} {s0 s1 s2 s3 : List UInt8} {v : Value} {w w' : World} (h : LV g s0 s1 s2 s3 v w) (hr : w.grownBy w' (some g)) : LV g s0 s1 s2 s3 v w' := by
  obtain ⟨bb, t0, t1, t2, t3, e, ht, hb, hn⟩ := h
  exact ⟨bb, t0, t1, t2, t3, e, ht, (hr.block bb (Array.getElem?_eq_some_iff.1 hb).1 (by simpa using hn)).trans hb, hn⟩
def FV (B : Nat) (a b c d s0 s1 s2 s3 : List UInt8) (v : Value) (w : World) : Prop := ∃ t0 t1 t2 t3 : List UInt8, w.ownsRow B 28 4 v (sel a b c d [(s0, s1, s2, s3), (t0, t1, t2, t3), (s0, s1, s2, s3)]).length (cQ (sel a b c d [(s0, s1, s2, s3), (t0, t1, t2, t3), (s0, s1, s2, s3)]))
theorem FV.next {g : Nat} {a b c d s0 s1 s2 s3 : List UInt8} {v : Value} {w w' : World} (h : FV (g + 1) a b c d s0 s1 s2 s3 v w) (hr : w.grownBy w' (some g)) : FV (g + 1) a b c d s0 s1 s2 s3 v w' := by
  obtain ⟨t0, t1, t2, t3, ho⟩ := h
  exact ⟨t0, t1, t2, t3, ho.kept hr (.inr (fun he => by have := (ho.lt g he).1; omega))⟩
theorem mem3 {s0 s1 s2 s3 t0 t1 t2 t3 : List UInt8} (h : Src4 s0 s1 s2 s3) (k : Src4 t0 t1 t2 t3) : ∀ q ∈ ([(s0, s1, s2, s3), (t0, t1, t2, t3), (s0, s1, s2, s3)] : List Q4), Src4 q.1 q.2.1 q.2.2.1 q.2.2.2 := by
  intro q hq
  simp only [List.mem_cons, List.not_mem_nil, or_false] at hq
  rcases hq with rfl | rfl | rfl
  · exact h
  · exact k
  · exact h
/-- The cells of an identifier at an offset of a block. -/
def At (w : World) (g o : Nat) (s0 s1 s2 s3 : List UInt8) : Prop :=
  w.cell? ⟨g, o, none⟩ = some (.string ⟨⟨s0⟩⟩) ∧ w.cell? ⟨g, o + 1, none⟩ = some (.string ⟨⟨s1⟩⟩) ∧ w.cell? ⟨g, o + 2, none⟩ = some (.string ⟨⟨s2⟩⟩) ∧ w.cell? ⟨g, o + 3, none⟩ = some (.string ⟨⟨s3⟩⟩)
theorem own_some {w : World} {B n : Nat} {e : TypeId} {v : Value} {xs : List Value} (h : w.ownsRow B e 4 v n xs) (hn : 0 < n) : ∃ g cp, v = .slice (some ⟨g, 0, none⟩) n cp ∧ w.ownsRow B e 4 (.slice (some ⟨g, 0, none⟩) n cp) n xs := by
  rcases h.2 with ⟨_, h0⟩ | ⟨g, cp, cur, rfl, _⟩
  · omega
  · exact ⟨g, cp, rfl, h⟩
theorem FV.two {B : Nat} {a b c d s0 s1 s2 s3 : List UInt8} {v : Value} {w : World} (h : FV B a b c d s0 s1 s2 s3 v w) (hm : m4 a b c d s0 s1 s2 s3 = true) :
    ∃ (g cp n : Nat), (n = 2 ∨ n = 3) ∧ v = .slice (some ⟨g, 0, none⟩) n cp ∧ At w g 0 s0 s1 s2 s3 ∧ At w g ((n - 1) * 4) s0 s1 s2 s3 := by
  obtain ⟨t0, t1, t2, t3, ho⟩ := h
  cases ht : m4 a b c d t0 t1 t2 t3
  · have e : sel a b c d [(s0, s1, s2, s3), (t0, t1, t2, t3), (s0, s1, s2, s3)] = [(s0, s1, s2, s3), (s0, s1, s2, s3)] := by simp [sel, hm, ht]
    rw [e] at ho
    obtain ⟨g, cp, rfl, ho⟩ := own_some ho (by simp)
    refine ⟨g, cp, 2, .inl rfl, rfl, ?_, ?_⟩
    · exact ⟨(ho.cellAt 0 (by simp)).trans rfl, (ho.cellAt 1 (by simp)).trans rfl, (ho.cellAt 2 (by simp)).trans rfl, (ho.cellAt 3 (by simp)).trans rfl⟩
    · exact ⟨(ho.cellAt 4 (by simp)).trans rfl, (ho.cellAt 5 (by simp)).trans rfl, (ho.cellAt 6 (by simp)).trans rfl, (ho.cellAt 7 (by simp)).trans rfl⟩
  · have e : sel a b c d [(s0, s1, s2, s3), (t0, t1, t2, t3), (s0, s1, s2, s3)] = [(s0, s1, s2, s3), (t0, t1, t2, t3), (s0, s1, s2, s3)] := by simp [sel, hm, ht]
    rw [e] at ho
    obtain ⟨g, cp, rfl, ho⟩ := own_some ho (by simp)
    refine ⟨g, cp, 3, .inr rfl, rfl, ?_, ?_⟩
    · exact ⟨(ho.cellAt 0 (by simp)).trans rfl, (ho.cellAt 1 (by simp)).trans rfl, (ho.cellAt 2 (by simp)).trans rfl, (ho.cellAt 3 (by simp)).trans rfl⟩
    · exact ⟨(ho.cellAt 8 (by simp)).trans rfl, (ho.cellAt 9 (by simp)).trans rfl, (ho.cellAt 10 (by simp)).trans rfl, (ho.cellAt 11 (by simp)).trans rfl⟩
theorem at_kept {w w' : World} {g a b c d : Nat} {t0 t1 t2 t3 : Value} (h : Below w.heap.size w w') (c0 : w.cell? ⟨g, a, none⟩ = some t0) (c1 : w.cell? ⟨g, b, none⟩ = some t1) (c2 : w.cell? ⟨g, c, none⟩ = some t2) (c3 : w.cell? ⟨g, d, none⟩ = some t3) :
    w'.cell? ⟨g, a, none⟩ = some t0 ∧ w'.cell? ⟨g, b, none⟩ = some t1 ∧ w'.cell? ⟨g, c, none⟩ = some t2 ∧ w'.cell? ⟨g, d, none⟩ = some t3 := by
  have hg := World.block_lt_of_cell? w _ c0
  have h1 : ∀ o : Nat, w'.cell? ⟨g, o, none⟩ = w.cell? ⟨g, o, none⟩ := fun o => h.cell (p := ⟨g, o, none⟩) hg
  exact ⟨(h1 a).trans c0, (h1 b).trans c1, (h1 c).trans c2, (h1 d).trans c3⟩
end Sc
end Go.Proofs.YtppbejebmlcloaaDoor
