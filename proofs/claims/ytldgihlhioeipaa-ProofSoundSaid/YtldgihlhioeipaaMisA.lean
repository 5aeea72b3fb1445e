/- Lists of phases and zones in memory; Residual, Cost, Best. -/
import Derived.Test.YtldgihlhioeipaaMisM
import Derived.Test.YtldgihlhioeipaaBuf
import Derived.Test.YtldgihlhioeipaaResMid
import Derived.ProofKit
import Derived.Outline
import Derived.Handy
import Derived.WalkSpells
import Derived.WalkLawsBesides
import Derived.Lib.Hide
import Derived.Lib.MinMax
import Derived.Laws.Tables
import Derived.Laws.Rows
import Derived.Laws.OwnMore
import Derived.Maps.AppendAt
import Derived.Laws.ResultCell
import Derived.Deep.DeepCutAuto
set_option linter.unusedVariables false
set_option linter.unusedSimpArgs false
namespace Go.Proofs.Ytldgihlhioeipaa
open Go.RowKit
namespace Mis
theorem new_block {w : World} (o : Obj) : Below w.heap.size w (w.alloc o) := (Below.refl _ _).alloc (Nat.le_refl _) _
theorem hb {w w' : World} {b : Nat} {o : Obj} (h : Below w.heap.size w w') (e : w.heap[b]? = some o) : w'.heap[b]? = some o := (h.block b (Array.getElem?_eq_some_iff.1 e).1).trans e
theorem own_kept {w w' : World} {B sz : Nat} {e : TypeId} {v : Value} {n : Nat} {xs : List Value} (h : w.ownsRow B e sz v n xs) (hb : ∀ k, v.ownBlock = some k → w'.heap[k]? = w.heap[k]?) : w'.ownsRow B e sz v n xs := by
  refine ⟨h.1, h.2.imp id ?_⟩
  rintro ⟨g, cap, cur, rfl, h1, h2, h3⟩
  exact ⟨g, cap, cur, rfl, h1, (hb g rfl).trans h2, h3⟩
theorem own_below {w w' : World} {B sz : Nat} {e : TypeId} {v : Value} {n : Nat} {xs : List Value} (h : w.ownsRow B e sz v n xs) (hb : Below w.heap.size w w') : w'.ownsRow B e sz v n xs := own_kept h fun k hk => hb.block k (h.lt k hk).2
theorem own_mono {w : World} {B B' sz : Nat} {e : TypeId} {v : Value} {n : Nat} {xs : List Value} (h : w.ownsRow B e sz v n xs) (hB : B' ≤ B) : w.ownsRow B' e sz v n xs :=
  ⟨h.1, h.2.imp id fun ⟨g, cap, cur, h1, h2, h3⟩ => ⟨g, cap, cur, h1, by omega, h3⟩⟩
theorem own_shape {w : World} {B sz : Nat} {e : TypeId} {v : Value} {n : Nat} {xs : List Value} (h : w.ownsRow B e sz v n xs) :
    (v = .slice none 0 0 ∧ n = 0) ∨ ∃ g c, v = .slice (some ⟨g, 0, none⟩) n c ∧ n ≤ c ∧ c ≤ maxLen ∧ g < w.heap.size ∧ B ≤ g := by
  rcases h.2 with h | ⟨g, cap, cur, rfl, h1, h2, h3, h4, _⟩
  · exact .inl h
  · exact .inr ⟨g, cap, rfl, h3, h4, (Array.getElem?_eq_some_iff.1 h2).1, h1⟩
theorem own_letter {w : World} {B sz : Nat} {e : TypeId} {v : Value} {n : Nat} {xs : List Value} (h : w.ownsRow B e sz v n xs) : ∃ a m c, v = .slice a m c ∧ Hid (m = n) := by
  rcases own_shape h with ⟨rfl, rfl⟩ | ⟨g, c, rfl, _⟩
  · exact ⟨none, 0, 0, rfl, Lib.hid rfl⟩
  · exact ⟨_, n, c, rfl, Lib.hid rfl⟩
/-- A phase: position, first and last time, weight. -/
structure Ph where
  x : Int
  y : Int
  z : Int
  E : Int
  L : Int
  W : Int
def ph0 : Ph := ⟨0, 0, 0, 0, 0, 0⟩
def cellsP (l : List Ph) : List Value := l.flatMap fun q => [.int .i64 q.x, .int .i64 q.y, .int .i64 q.z, .int .i64 q.E, .int .i64 q.L, .int .i64 q.W]
theorem cellsP_snoc (l : List Ph) (q : Ph) : cellsP (l ++ [q]) = cellsP l ++ [.int .i64 q.x, .int .i64 q.y, .int .i64 q.z, .int .i64 q.E, .int .i64 q.L, .int .i64 q.W] := by simp [cellsP, List.flatMap_append]
theorem cellsP_get (l : List Ph) (k : Nat) (p : Ph) (h : l[k]? = some p) :
    (cellsP l)[k * 6]? = some (.int .i64 p.x) ∧ (cellsP l)[k * 6 + 1]? = some (.int .i64 p.y) ∧ (cellsP l)[k * 6 + 2]? = some (.int .i64 p.z) ∧ (cellsP l)[k * 6 + 3]? = some (.int .i64 p.E) ∧ (cellsP l)[k * 6 + 4]? = some (.int .i64 p.L) ∧ (cellsP l)[k * 6 + 5]? = some (.int .i64 p.W) := by
  induction l generalizing k with
  | nil => simp at h
  | cons q l ih =>
    have e : cellsP (q :: l) = .int .i64 q.x :: .int .i64 q.y :: .int .i64 q.z :: .int .i64 q.E :: .int .i64 q.L :: .int .i64 q.W :: cellsP l := by simp [cellsP]
    rw [e]
    cases k with
    | zero => simp at h; subst h; simp
    | succ k =>
      have := ih k (by simpa using h)
      have e1 : (k + 1) * 6 = k * 6 + 1 + 1 + 1 + 1 + 1 + 1 := by omega
      rw [e1]
      simpa using this
def OwnP (w : World) (B : Nat) (v : Value) (l : List Ph) : Prop := w.ownsRow B 63 6 v l.length (cellsP l)
/-- Phases that can be read. -/
def PhR (w : World) (g : Nat) (l : List Ph) : Prop := g < w.heap.size ∧ ∀ (k : Nat) (p : Ph), l[k]? = some p → w.cell? ⟨g, k * 6, none⟩ = some (.int .i64 p.x) ∧ w.cell? ⟨g, k * 6 + 1, none⟩ = some (.int .i64 p.y) ∧ w.cell? ⟨g, k * 6 + 2, none⟩ = some (.int .i64 p.z) ∧ w.cell? ⟨g, k * 6 + 3, none⟩ = some (.int .i64 p.E) ∧ w.cell? ⟨g, k * 6 + 4, none⟩ = some (.int .i64 p.L) ∧ w.cell? ⟨g, k * 6 + 5, none⟩ = some (.int .i64 p.W)
theorem PhR.kept {w w' : World} {g : Nat} {l : List Ph} (h : PhR w g l) (hk : w'.heap[g]? = w.heap[g]?) (hs : w.heap.size ≤ w'.heap.size) : PhR w' g l :=
  ⟨Nat.lt_of_lt_of_le h.1 hs, fun k p hp => by
    obtain ⟨a, b, c, d, e, f⟩ := h.2 k p hp
    have K : ∀ o, w'.cell? ⟨g, o, none⟩ = w.cell? ⟨g, o, none⟩ := fun o => World.cell?_of_block (a := ⟨g, o, none⟩) hk
    exact ⟨(K _).trans a, (K _).trans b, (K _).trans c, (K _).trans d, (K _).trans e, (K _).trans f⟩⟩
theorem PhR.below {w w' : World} {g : Nat} {l : List Ph} (h : PhR w g l) (hb : Below w.heap.size w w') : PhR w' g l := h.kept (hb.block g h.1) hb.size
theorem phR_of_own {w : World} {B g n c : Nat} {l : List Ph} (h : OwnP w B (.slice (some ⟨g, 0, none⟩) n c) l) : PhR w g l ∧ n = l.length ∧ n ≤ c ∧ c ≤ maxLen ∧ B ≤ g := by
  have hn : n = l.length := by
    rcases own_shape h with ⟨h1, _⟩ | ⟨g', c', h1, _⟩
    · cases h1
    · injection h1 with _ h1 _
  rcases own_shape h with ⟨h1, _⟩ | ⟨g', c', h1, h2, h3, h4, h5⟩
  · cases h1
  · injection h1 with e1 e2 e3
    injection e1 with e1
    injection e1 with e1
    subst e1 e3
    refine ⟨⟨h4, fun k p hp => ?_⟩, hn, by omega, h3, h5⟩
    have hk : k < l.length := (List.getElem?_eq_some_iff.1 hp).1
    obtain ⟨a, b, c', d, e, f⟩ := cellsP_get l k p hp
    have ho : w.ownsRow B 63 6 (.slice (some ⟨g, 0, none⟩) l.length c) l.length (cellsP l) := by have h6 := h; unfold OwnP at h6; rw [hn] at h6; exact h6
    exact ⟨(ho.cellAt _ (by omega)).trans a, (ho.cellAt _ (by omega)).trans b, (ho.cellAt _ (by omega)).trans c', (ho.cellAt _ (by omega)).trans d, (ho.cellAt _ (by omega)).trans e, (ho.cellAt _ (by omega)).trans f⟩
def cellsZ (l : List (Int × Int)) : List Value := l.flatMap fun p => [.int .i64 p.1, .int .i64 p.2]
theorem cellsZ_snoc (l : List (Int × Int)) (x y : Int) : cellsZ (l ++ [(x, y)]) = cellsZ l ++ [.int .i64 x, .int .i64 y] := by simp [cellsZ, List.flatMap_append]
theorem cellsZ_get (l : List (Int × Int)) (k : Nat) (p : Int × Int) (h : l[k]? = some p) : (cellsZ l)[k * 2]? = some (.int .i64 p.1) ∧ (cellsZ l)[k * 2 + 1]? = some (.int .i64 p.2) := by
  induction l generalizing k with
  | nil => simp at h
  | cons q l ih =>
    have e : cellsZ (q :: l) = .int .i64 q.1 :: .int .i64 q.2 :: cellsZ l := by simp [cellsZ]
    rw [e]
    cases k with
    | zero => simp at h; subst h; simp
    | succ k =>
      have := ih k (by simpa using h)
      have e1 : (k + 1) * 2 = k * 2 + 1 + 1 := by omega
      rw [e1]
      simpa using this
def OwnZ (w : World) (B : Nat) (v : Value) (l : List (Int × Int)) : Prop := w.ownsRow B 100 2 v l.length (cellsZ l)
/-- Zones that can be read. -/
def ZnR (w : World) (g : Nat) (l : List (Int × Int)) : Prop := g < w.heap.size ∧ ∀ (k : Nat) (p : Int × Int), l[k]? = some p → w.cell? ⟨g, k * 2, none⟩ = some (.int .i64 p.1) ∧ w.cell? ⟨g, k * 2 + 1, none⟩ = some (.int .i64 p.2)
theorem ZnR.kept {w w' : World} {g : Nat} {l : List (Int × Int)} (h : ZnR w g l) (hk : w'.heap[g]? = w.heap[g]?) (hs : w.heap.size ≤ w'.heap.size) : ZnR w' g l :=
  ⟨Nat.lt_of_lt_of_le h.1 hs, fun k p hp => by
    obtain ⟨a, b⟩ := h.2 k p hp
    exact ⟨(World.cell?_of_block (a := ⟨g, _, none⟩) hk).trans a, (World.cell?_of_block (a := ⟨g, _, none⟩) hk).trans b⟩⟩
theorem ZnR.below {w w' : World} {g : Nat} {l : List (Int × Int)} (h : ZnR w g l) (hb : Below w.heap.size w w') : ZnR w' g l := h.kept (hb.block g h.1) hb.size
theorem znR_of_own {w : World} {B : Nat} {v : Value} {l : List (Int × Int)} (h : OwnZ w B v l) (h0 : 0 < l.length) : ∃ g c, v = .slice (some ⟨g, 0, none⟩) l.length c ∧ ZnR w g l ∧ l.length ≤ c ∧ c ≤ maxLen ∧ B ≤ g := by
  rcases own_shape h with ⟨_, h1⟩ | ⟨g, c, rfl, h2, h3, h4, h5⟩
  · omega
  · refine ⟨g, c, rfl, ⟨h4, fun k p hp => ?_⟩, h2, h3, h5⟩
    have hk : k < l.length := (List.getElem?_eq_some_iff.1 hp).1
    obtain ⟨a, b⟩ := cellsZ_get l k p hp
    have ho : w.ownsRow B 100 2 (.slice (some ⟨g, 0, none⟩) l.length c) l.length (cellsZ l) := h
    exact ⟨(ho.cellAt _ (by omega)).trans a, (ho.cellAt _ (by omega)).trans b⟩
theorem ret_int {k : IntKind} {a b : Int} (h : a = b) : Ending.returned (.int k a) = .returned (.int k b) := by rw [h]
/-- Weights and zones as functions. -/
def wt (L : List Ph) (k : Nat) : Int := (L.getD k ph0).W
def zn (Z : List (Int × Int)) (k : Nat) : Int × Int := Z.getD k (0, 0)
theorem wt_at {L : List Ph} {k : Nat} {q : Ph} (h : L[k]? = some q) : wt L k = q.W := by simp [wt, List.getD_eq_getElem?_getD, h]
theorem zn_at {Z : List (Int × Int)} {k : Nat} {q : Int × Int} (h : Z[k]? = some q) : zn Z k = q := by simp [zn, List.getD_eq_getElem?_getD, h]
set_option maxHeartbeats 2000000 in
theorem res_any (f t' : Int) (t : Int) (f0 : -4611686018427387904 ≤ f) (f1 : f ≤ 4611686018427387904) (t0 : -4611686018427387904 ≤ t') (t1 : t' ≤ 4611686018427387904) (x0 : -4611686018427387903 ≤ t) (x1 : t ≤ 4611686018427387903) (w : World) :
    Calls Try.prog 74 #[.agg #[.int .i64 f, .int .i64 t'], .int .i64 t] w fun e w' => e = .returned (.int .i64 (res (f, t') t)) ∧ Below w.heap.size w w' := by
  unfold res
  dsimp only
  go_enter Try.func74, Try.ntmps74
  go_wp2_with fail
  all_goals
    go_ret
    exact ⟨ret_int (by first | omega | (split at * <;> omega)), new_block _⟩
/-- The cells of a problem. -/
theorem c11 {w : World} {g : Nat} {a b c d e f s l h p q : Value} {t : TypeId} (hh : w.heap[g]? = some (.cells #[a, b, c, d, e, f, s, l, h, p, q] t (0, 0))) :
    w.cell? ⟨g, 0, none⟩ = some a ∧ w.cell? ⟨g, 1, none⟩ = some b ∧ w.cell? ⟨g, 2, none⟩ = some c ∧ w.cell? ⟨g, 3, none⟩ = some d ∧ w.cell? ⟨g, 4, none⟩ = some e ∧ w.cell? ⟨g, 5, none⟩ = some f ∧ w.cell? ⟨g, 6, none⟩ = some s ∧ w.cell? ⟨g, 7, none⟩ = some l ∧ w.cell? ⟨g, 8, none⟩ = some h ∧ w.cell? ⟨g, 9, none⟩ = some p ∧ w.cell? ⟨g, 10, none⟩ = some q :=
  ⟨cell_of_row w g 0 _ _ _ hh, cell_of_row w g 1 _ _ _ hh, cell_of_row w g 2 _ _ _ hh, cell_of_row w g 3 _ _ _ hh, cell_of_row w g 4 _ _ _ hh, cell_of_row w g 5 _ _ _ hh, cell_of_row w g 6 _ _ _ hh, cell_of_row w g 7 _ _ _ hh, cell_of_row w g 8 _ _ _ hh, cell_of_row w g 9 _ _ _ hh, cell_of_row w g 10 _ _ _ hh⟩
end Mis
end Go.Proofs.Ytldgihlhioeipaa
