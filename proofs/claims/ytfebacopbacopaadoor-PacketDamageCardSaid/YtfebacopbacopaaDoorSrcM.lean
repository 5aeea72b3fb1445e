/- Mathematics of patterns: four parts joined by dots, cut at dots; what a pattern matches. strings.Split at four parts. -/
import Derived.Test.YtfebacopbacopaaDoorSrcB
import Derived.Test.YtfebacopbacopaaDoorSrcS
set_option linter.unusedVariables false
set_option linter.unusedSimpArgs false
namespace Go.Proofs.YtfebacopbacopaaDoor
open Go.RowKit Dice
namespace Sc
def j4 (a b c d : List UInt8) : List UInt8 := a ++ 46 :: (b ++ 46 :: (c ++ 46 :: d))
theorem ib_dot : ∀ (a r : List UInt8), (46 : UInt8) ∉ a → Lib.indexByte (a ++ 46 :: r) 46 = (a.length : Int)
  | [], r, _ => by simp [Lib.indexByte]
  | x :: a, r, h => by
    have hx : ¬ (x == 46) = true := fun e => h (by rw [eq_of_beq e]; exact List.mem_cons_self ..)
    have ih := ib_dot a r (fun h' => h (List.mem_cons_of_mem _ h'))
    show (if x == 46 then (0 : Int) else if Lib.indexByte (a ++ 46 :: r) 46 == -1 then -1 else Lib.indexByte (a ++ 46 :: r) 46 + 1) = _
    rw [ih, if_neg hx, if_neg (by simp)]
    simp
theorem x_dot (a r : List UInt8) (h : (46 : UInt8) ∉ a) : Lib.indexB ⟨⟨a ++ 46 :: r⟩⟩ ⟨#[46]⟩ = (a.length : Int) := by
  show Lib.index (a ++ 46 :: r) [46] = _
  rw [Lib.index_one, ib_dot a r h]
theorem cut_l (a r : List UInt8) : (ByteArray.mk ⟨a ++ r⟩).extract 0 (a.length + 0) = ⟨⟨a⟩⟩ := by
  apply ByteArray.ext
  rw [ByteArray.data_extract]
  apply Array.ext'
  simp
theorem cut_r (a r : List UInt8) : (ByteArray.mk ⟨a ++ 46 :: r⟩).extract (a.length + (ByteArray.mk #[46]).size) (ByteArray.mk ⟨a ++ 46 :: r⟩).size = ⟨⟨r⟩⟩ := by
  apply ByteArray.ext
  rw [ByteArray.data_extract]
  apply Array.ext'
  show (Array.extract ⟨a ++ 46 :: r⟩ (a.length + 1) (a ++ 46 :: r).length).toList = r
  simp
  exact List.take_of_length_le (by omega)
theorem split4 {a b c : List UInt8} (d : List UInt8) (ha : (46 : UInt8) ∉ a) (hb : (46 : UInt8) ∉ b) (hc : (46 : UInt8) ∉ c) :
    Lib.splitB ⟨#[46]⟩ 0 3 ⟨⟨j4 a b c d⟩⟩ = [⟨⟨a⟩⟩, ⟨⟨b⟩⟩, ⟨⟨c⟩⟩, ⟨⟨d⟩⟩] := by
  unfold j4
  rw [Lib.splitB_hit _ 0 2 _ _ (x_dot a _ ha), cut_l, cut_r, Lib.splitB_hit _ 0 1 _ _ (x_dot b _ hb), cut_l, cut_r, Lib.splitB_hit _ 0 0 _ _ (x_dot c _ hc), cut_l, cut_r, Lib.splitB_zero]
theorem count4 {a b c d : List UInt8} (ha : (46 : UInt8) ∉ a) (hb : (46 : UInt8) ∉ b) (hc : (46 : UInt8) ∉ c) (hd : (46 : UInt8) ∉ d) :
    Lib.countB ⟨⟨j4 a b c d⟩⟩ ⟨#[46]⟩ = 3 := by
  show Lib.count (j4 a b c d) [46] = 3
  rw [Lib.count_one]
  unfold j4
  simp [List.count_append, List.count_cons, List.count_eq_zero.2 ha, List.count_eq_zero.2 hb, List.count_eq_zero.2 hc, List.count_eq_zero.2 hd]
/-- A pattern's part may be read: few bytes, no dot. -/
def Mx (w : World) : Prop := ∃ m : Int, w.cell? ⟨0, 0, none⟩ = some (.int .i64 m)
theorem Mx.next {w w' : World} (h : Mx w) (b : Below w.heap.size w w') : Mx w' := by
  obtain ⟨m, hm⟩ := h
  exact ⟨m, by rw [b.cell (World.block_lt_of_cell? w _ hm)]; exact hm⟩
theorem split_any {a b c d : List UInt8} (ha : (46 : UInt8) ∉ a) (hb : (46 : UInt8) ∉ b) (hc : (46 : UInt8) ∉ c) (hd : (46 : UInt8) ∉ d)
    (hl : (j4 a b c d).length < 4294967281) (w : World) (hm : Mx w) :
    Calls Tryd.prog 37 #[.string ⟨⟨j4 a b c d⟩⟩, .string ⟨#[46]⟩] w fun e w' =>
      e = .returned (.slice (some ⟨w.heap.size, 0, none⟩) 4 4) ∧ w' = w.alloc (.cells #[.string ⟨⟨a⟩⟩, .string ⟨⟨b⟩⟩, .string ⟨⟨c⟩⟩, .string ⟨⟨d⟩⟩] 9) := by
  obtain ⟨m, hm⟩ := hm
  have h := Any.strings_Split SrcS.lays (by kernel_rfl) ⟨⟨j4 a b c d⟩⟩ ⟨#[46]⟩ m w hl hm (by decide)
  rw [count4 ha hb hc hd, split4 d ha hb hc] at h
  exact h
/-- A code has no dot, no star, no mark. -/
theorem Code.byte {l : List UInt8} (h : Code l) {b : UInt8} (hb : b ∈ l) : cap (b.toNat : Int) = true := by
  obtain ⟨k, hk, e⟩ := List.getElem_of_mem hb
  exact h k b (by rw [List.getElem?_eq_getElem hk, e])
theorem Code.no_dot {l : List UInt8} (h : Code l) : (46 : UInt8) ∉ l := fun hb => absurd (h.byte hb) (by decide)
theorem cap_ne {b : UInt8} (h : cap (b.toNat : Int) = true) : b ≠ 42 ∧ b ≠ 63 :=
  ⟨fun e => by subst e; exact absurd h (by decide), fun e => by subst e; exact absurd h (by decide)⟩
theorem Code.tail {x : UInt8} {l : List UInt8} (h : Code (x :: l)) : Code l := code_of fun b hb => h.byte (List.mem_cons_of_mem _ hb)
/-- A code matches itself and nothing else. -/
theorem mp_code : ∀ (n : Nat) (p c : List UInt8), Code p → p.length + c.length < n → mp n p c = decide (p = c)
  | 0, p, c, _, h => absurd h (Nat.not_lt_zero _)
  | n + 1, [], c, _, _ => by cases c <;> rfl
  | n + 1, x :: p, [], hp, _ => by
    rw [mp_nil n x p (cap_ne (hp.byte (List.mem_cons_self ..))).1]; rfl
  | n + 1, x :: p, y :: c, hp, h => by
    simp only [List.length_cons] at h
    have hx := cap_ne (hp.byte (List.mem_cons_self ..))
    rw [mp_cons n x y p c hx.1, mp_code n p c hp.tail (by omega)]
    have h63 : (x == 63) = false := by simp [hx.2]
    rw [h63, Bool.false_or]
    by_cases e : x = y
    · subst e; simp
    · simp [e]
/-- The star matches all. -/
theorem mp_all : ∀ (n : Nat) (c : List UInt8), 1 + c.length < n → mp n [42] c = true
  | 0, c, h => absurd h (Nat.not_lt_zero _)
  | n + 1, [], h => by
    obtain ⟨k, rfl⟩ : ∃ k, n = k + 1 := ⟨n - 1, by simp at h; omega⟩
    rfl
  | n + 1, y :: c, h => by
    simp only [List.length_cons] at h
    rw [mp_star]
    show (mp n [] (y :: c) || mp n [42] c) = true
    rw [mp_all n c (by omega)]
    exact Bool.or_true _
end Sc
end Go.Proofs.YtfebacopbacopaaDoor
