/- What the loop of LinkApart keeps: three wires in their blocks. -/
import Derived.Test.YtjgbidnijfecoaaLnkO
set_option linter.unusedVariables false
set_option linter.unusedSimpArgs false
namespace Go.Proofs.Ytjgbidnijfecoaa
open Go.RowKit Wi Dice
namespace Lnk
/-- A wire in a block. -/
structure WB (B : Nat) (b : Nat) (now ord : Int) (r : Value) (L : List T3) (w : World) : Prop where
  own : OwnT w B r L
  wire : w.heap[b]? = some (.cells #[.int .i64 now, .int .i64 ord, r] 29 (0, 0))
  hB : B ≤ b
section
variable {W w0 w w' : World} {g : Nat} {a : Option Addr} {len cap : Nat} {zs : List Int} {B b b' : Nat} {now ord : Int} {r : Value} {L : List T3}
theorem WB.below (h : WB B b now ord r L w) (hb' : Below w.heap.size w w') : WB B b now ord r L w' := ⟨own_below h.own hb', hb hb' h.wire, h.hB⟩
theorem WB.roll (h : WB B b now ord r L w) (hd : Di W w g a len cap zs) (hg : g < B) (l : Dice.Left W w w' g a len cap zs) : WB B b now ord r L w' :=
  ⟨own_left h.own hd (by decide) l, lblk l h.wire (by have := h.hB; omega), h.hB⟩
theorem WB.cells (h : WB B b now ord r L w) : w.cell? ⟨b, 0, none⟩ = some (.int .i64 now) ∧ w.cell? ⟨b, 1, none⟩ = some (.int .i64 ord) ∧ w.cell? ⟨b, 2, none⟩ = some r := c3 h.wire
theorem WB.fr (h : WB B b now ord r L w) : w.frozen? ⟨b, 0, none⟩ = false ∧ w.frozen? ⟨b, 1, none⟩ = false ∧ w.frozen? ⟨b, 2, none⟩ = false := f3 h.wire
/-- A store of a wire into another block. -/
theorem WB.far (h : WB B b now ord r L w) {x y z : Value} (hb' : w.heap[b']? = some (.cells #[x, y, z] 29 (0, 0))) (hne : b ≠ b') (p q u : Value) : WB B b now ord r L (((w.setCell ⟨b', 0, none⟩ p).setCell ⟨b', 1, none⟩ q).setCell ⟨b', 2, none⟩ u) :=
  ⟨own_ty3 h.own hb' (by decide) _ _ _, st_far3 h.wire hne _ _ _, h.hB⟩
/-- .. into its own. -/
theorem WB.store (h : WB B b now ord r L w) {now' ord' : Int} {r' : Value} {L' : List T3} (ho : OwnT w B r' L') : WB B b now' ord' r' L' (((w.setCell ⟨b, 0, none⟩ (.int .i64 now')).setCell ⟨b, 1, none⟩ (.int .i64 ord')).setCell ⟨b, 2, none⟩ r') :=
  ⟨own_ty3 ho h.wire (by decide) _ _ _, st3all h.wire _ _ _, h.hB⟩
theorem own_st {x y z : Value} {sz : Nat} {e : TypeId} {v : Value} {n : Nat} {xs : List Value} (h : w.ownsRow B e sz v n xs) (hb' : w.heap[b']? = some (.cells #[x, y, z] 29 (0, 0))) (he : 29 ≠ e) (p q u : Value) : (((w.setCell ⟨b', 0, none⟩ p).setCell ⟨b', 1, none⟩ q).setCell ⟨b', 2, none⟩ u).ownsRow B e sz v n xs := own_ty3 h hb' he p q u
theorem left_st (H : Di W w0 g a len cap zs) (l : Dice.Left W w0 w g a len cap zs) (hb' : w0.heap.size ≤ b') (p q u : Value) : Dice.Left W w0 (((w.setCell ⟨b', 0, none⟩ p).setCell ⟨b', 1, none⟩ q).setCell ⟨b', 2, none⟩ u) g a len cap zs :=
  Dice.Left.past H l (below_set3 (Below.refl _ _) hb' _ _ _)
end
/-- The four messages. -/
def ms (q : Nat) : ByteArray := if q = 0 then ⟨#[97, 49]⟩ else if q = 1 then ⟨#[97, 50]⟩ else if q = 2 then ⟨#[98, 49]⟩ else ⟨#[98, 50]⟩
theorem ms_form (q : Nat) : ∃ c d : UInt8, ms q = ⟨#[c, d]⟩ ∧ (c = 97 ∨ c = 98) := by
  unfold ms
  split
  · exact ⟨97, 49, rfl, .inl rfl⟩
  · split
    · exact ⟨97, 50, rfl, .inl rfl⟩
    · split
      · exact ⟨98, 49, rfl, .inr rfl⟩
      · exact ⟨98, 50, rfl, .inr rfl⟩
theorem ms_at {w : World} {b q : Nat} {t : TypeId} (h : w.heap[b]? = some (.cells #[.string ⟨#[97, 49]⟩, .string ⟨#[97, 50]⟩, .string ⟨#[98, 49]⟩, .string ⟨#[98, 50]⟩] t (0, 0))) (hq : q < 4) : w.cell? ⟨b, q, none⟩ = some (.string (ms q)) := by
  rw [cell_of_row w b q _ _ _ h]
  obtain rfl | rfl | rfl | rfl : q = 0 ∨ q = 1 ∨ q = 2 ∨ q = 3 := by omega
  all_goals rfl
/-- Two letters, of which the first one says the stream. -/
def Two (s : ByteArray) : Prop := ∃ c d : UInt8, s = ⟨#[c, d]⟩ ∧ (c = 97 ∨ c = 98)
theorem isA_two (c d : UInt8) : isA ⟨#[c, d]⟩ = (c == 97) := by simp [isA]
/-- What the numbers of the loop say. -/
structure AN (j : Nat) (o1 o2 o3 : Int) (L1 L2 L3 : List T3) : Prop where
  g1 : Good j o1 L1
  g2 : Good j o2 L2
  g3 : Good j o3 L3
  a2 : AP true L1 L2
  a3 : AP false L1 L3
  two : ∀ p ∈ L1, Two p.2.2
  n1 : o1 ≤ j ∧ o2 ≤ j ∧ o3 ≤ j
  l1 : L1.length ≤ 3 * j ∧ L2.length ≤ 3 * j ∧ L3.length ≤ 3 * j
/-- Behind a message of this tick. -/
structure AM (j : Nat) (o1 o2 o3 : Int) (L1 L2 L3 : List T3) : Prop where
  g1 : Good j o1 L1
  g2 : Good j o2 L2
  g3 : Good j o3 L3
  a2 : AP true L1 L2
  a3 : AP false L1 L3
  two : ∀ p ∈ L1, Two p.2.2
  n1 : o1 ≤ j + 1 ∧ o2 ≤ j + 1 ∧ o3 ≤ j + 1
  l1 : L1.length ≤ 3 * j + 3 ∧ L2.length ≤ 3 * j + 3 ∧ L3.length ≤ 3 * j + 3
theorem AN.stay {j : Nat} {o1 o2 o3 : Int} {L1 L2 L3 : List T3} (h : AN j o1 o2 o3 L1 L2 L3) : AM j o1 o2 o3 L1 L2 L3 := by
  obtain ⟨a, b, c⟩ := h.n1
  obtain ⟨d, e, f⟩ := h.l1
  exact ⟨h.g1, h.g2, h.g3, h.a2, h.a3, h.two, ⟨by omega, by omega, by omega⟩, ⟨by omega, by omega, by omega⟩⟩
theorem two_insN {x y : Int} {s : ByteArray} {L : List T3} {n : Nat} (h : ∀ p ∈ L, Two p.2.2) (hs : Two s) : ∀ p ∈ insN x y s L n, Two p.2.2 := fun p hp => by
  rcases List.mem_append.1 ((insN_perm x y s L n).mem_iff.1 hp) with h1 | h1
  · obtain ⟨k, _, rfl⟩ := news_mem h1
    exact hs
  · exact h p h1
theorem AN.sendA {j : Nat} {o1 o2 o3 : Int} {L1 L2 L3 : List T3} (h : AN j o1 o2 o3 L1 L2 L3) (hj : j ≤ 16) {dl : Int} {d : UInt8} (d0 : 0 ≤ dl) (d5 : dl ≤ 5) (n : Nat) (hn : n ≤ 3) :
    AM j (o1 + 1) (o2 + 1) o3 (insN ((j : Int) + 1 + dl) o1 ⟨#[97, d]⟩ L1 n) (insN ((j : Int) + 1 + dl) o2 ⟨#[97, d]⟩ L2 n) L3 := by
  obtain ⟨a, b, c⟩ := h.n1
  obtain ⟨l, m, k⟩ := h.l1
  have hs : (⟨#[97, d]⟩ : ByteArray).size ≤ 4096 := by show 2 ≤ 4096; omega
  exact ⟨good_insN h.g1 d0 n hs (by omega) (by omega) (by omega), good_insN h.g2 d0 n hs (by omega) (by omega) (by omega), h.g3, h.a2.same h.g1 h.g2 (by rw [isA_two]; rfl) n, h.a3.other h.g1 (by rw [isA_two]; decide) n, two_insN h.two ⟨97, d, rfl, .inl rfl⟩, ⟨by omega, by omega, by omega⟩, ⟨by rw [insN_length]; omega, by rw [insN_length]; omega, by omega⟩⟩
theorem AN.sendB {j : Nat} {o1 o2 o3 : Int} {L1 L2 L3 : List T3} (h : AN j o1 o2 o3 L1 L2 L3) (hj : j ≤ 16) {dl : Int} {d : UInt8} (d0 : 0 ≤ dl) (d5 : dl ≤ 5) (n : Nat) (hn : n ≤ 3) :
    AM j (o1 + 1) o2 (o3 + 1) (insN ((j : Int) + 1 + dl) o1 ⟨#[98, d]⟩ L1 n) L2 (insN ((j : Int) + 1 + dl) o3 ⟨#[98, d]⟩ L3 n) := by
  obtain ⟨a, b, c⟩ := h.n1
  obtain ⟨l, m, k⟩ := h.l1
  have hs : (⟨#[98, d]⟩ : ByteArray).size ≤ 4096 := by show 2 ≤ 4096; omega
  exact ⟨good_insN h.g1 d0 n hs (by omega) (by omega) (by omega), h.g2, good_insN h.g3 d0 n hs (by omega) (by omega) (by omega), h.a2.other h.g1 (by rw [isA_two]; decide) n, h.a3.same h.g1 h.g3 (by rw [isA_two]; decide) n, two_insN h.two ⟨98, d, rfl, .inr rfl⟩, ⟨by omega, by omega, by omega⟩, ⟨by rw [insN_length]; omega, by omega, by rw [insN_length]; omega⟩⟩
theorem AM.tick {j : Nat} {o1 o2 o3 : Int} {L1 L2 L3 : List T3} (h : AM j o1 o2 o3 L1 L2 L3) (hj : j < 16) :
    AN (j + 1) o1 o2 o3 (L1.drop (due ((j : Int) + 1) L1)) (L2.drop (due ((j : Int) + 1) L2)) (L3.drop (due ((j : Int) + 1) L3)) := by
  obtain ⟨a, b, c⟩ := h.n1
  obtain ⟨l, m, k⟩ := h.l1
  have e : ((j + 1 : Nat) : Int) = (j : Int) + 1 := by omega
  exact ⟨by rw [e]; exact good_tick h.g1 (by omega), by rw [e]; exact good_tick h.g2 (by omega), by rw [e]; exact good_tick h.g3 (by omega), (h.a2.tick h.g1 h.g2).1, (h.a3.tick h.g1 h.g3).1, fun p hp => h.two p (List.mem_of_mem_drop hp), ⟨by omega, by omega, by omega⟩, ⟨by rw [List.length_drop]; omega, by rw [List.length_drop]; omega, by rw [List.length_drop]; omega⟩⟩
theorem AM.data {j : Nat} {o1 o2 o3 : Int} {L1 L2 L3 : List T3} (h : AM j o1 o2 o3 L1 L2 L3) : ∀ s ∈ dat (L1.take (due ((j : Int) + 1) L1)), Two s := fun s hs => by
  unfold dat at hs
  obtain ⟨p, hp, rfl⟩ := List.mem_map.1 hs
  exact h.two p (List.mem_of_mem_take hp)
/-- A list of strings that can be read, wherever it begins. -/
def Vw (w : World) (v : Value) (l : List ByteArray) : Prop :=
  ∃ (a : Option Addr) (c : Nat), v = .slice a l.length c ∧ l.length ≤ c ∧ c ≤ maxLen ∧ (l ≠ [] → ∃ g o : Nat, a = some ⟨g, o, none⟩ ∧ g < w.heap.size ∧ ∀ (k : Nat) (s : ByteArray), l[k]? = some s → w.cell? ⟨g, o + k, none⟩ = some (.string s))
theorem Vw.below {w w' : World} {v : Value} {l : List ByteArray} (h : Vw w v l) (hb' : Below w.heap.size w w') : Vw w' v l := by
  obtain ⟨a, c, h1, h2, h3, h4⟩ := h
  refine ⟨a, c, h1, h2, h3, fun hn => ?_⟩
  obtain ⟨g, o, e, hg, hc⟩ := h4 hn
  exact ⟨g, o, e, Nat.lt_of_lt_of_le hg hb'.size, fun k s hs => (hb'.cell (p := ⟨g, _, none⟩) hg).trans (hc k s hs)⟩
theorem vw_own {w : World} {B : Nat} {v : Value} {l : List ByteArray} (h : OwnS w B v l) : Vw w v l := by
  rcases own_shape h with ⟨rfl, h0⟩ | ⟨g, c, rfl, h1, h2, h3, _⟩
  · have : l = [] := List.eq_nil_of_length_eq_zero h0
    subst this
    exact ⟨none, 0, rfl, Nat.le_refl _, Nat.zero_le _, fun h => absurd rfl h⟩
  · refine ⟨_, c, rfl, h1, h2, fun hn => ⟨g, 0, rfl, h3, fun k s hs => ?_⟩⟩
    have hk : k < l.length := (List.getElem?_eq_some_iff.1 hs).1
    have := sAt h rfl k hk
    rw [Nat.zero_add, this, List.getD_eq_getElem?_getD, hs]; rfl
theorem st3_grown (w : World) (b : Nat) (p q u : Value) : w.grownBy (((w.setCell ⟨b, 0, none⟩ p).setCell ⟨b, 1, none⟩ q).setCell ⟨b, 2, none⟩ u) (some b) :=
  ⟨rfl, rfl, rfl, by simp, fun k hk hne => by
    have hkb : k ≠ b := fun e => hne (by rw [e])
    exact (Below.heap_setCell _ ⟨b, 2, none⟩ _ k hkb).trans ((Below.heap_setCell _ ⟨b, 1, none⟩ _ k hkb).trans (Below.heap_setCell _ ⟨b, 0, none⟩ _ k hkb))⟩
/-- What a step of a region may change. -/
abbrev StepR (g k : Nat) (w w' : World) : Prop := if k = 8 then ∃ (p_ : Nat) (x_ y_ z_ u_ v_ t_ : Value), w.heap[p_]? = some (.cells #[x_, y_, z_] 32 (0, 0)) ∧ w'.heap[p_]? = some (.cells #[u_, v_, t_] 32 (0, 0)) ∧ w.grownBy w' (some p_) else w.grownBy w' (some g)
theorem StepR.other {g k : Nat} {w w' : World} (hk : k ≠ 8) (h : w.grownBy w' (some g)) : StepR g k w w' := by unfold StepR; rw [if_neg hk]; exact h
theorem StepR.get {g k : Nat} {w w' : World} (h : StepR g k w w') (hk : k ≠ 8) : w.grownBy w' (some g) := by unfold StepR at h; rwa [if_neg hk] at h
theorem StepR.at8 {g : Nat} {w w' : World} (h : ∃ (p_ : Nat) (x_ y_ z_ u_ v_ t_ : Value), w.heap[p_]? = some (.cells #[x_, y_, z_] 32 (0, 0)) ∧ w'.heap[p_]? = some (.cells #[u_, v_, t_] 32 (0, 0)) ∧ w.grownBy w' (some p_)) : StepR g 8 w w' := by unfold StepR; rw [if_pos rfl]; exact h
theorem apart_keep {g k N p : Nat} {w w' : World} {cs : Array Value} {t : TypeId} (hg : g < N) (hr : StepR g k w w') (ht : t ≠ 32) (hp : N ≤ p) (h : w.heap[p]? = some (.cells cs t (0, 0))) : w'.heap[p]? = some (.cells cs t (0, 0)) := by
  unfold StepR at hr
  split at hr
  · obtain ⟨b, x, y, z, u, v, s, h1, h2, h3⟩ := hr
    refine (h3.block p (Array.getElem?_eq_some_iff.1 h).1 (fun e => ?_)).trans h
    injection e with e
    rw [e, h1] at h
    simp at h
    exact ht h.2.symm
  · exact (hr.block p (Array.getElem?_eq_some_iff.1 h).1 (by simp; omega)).trans h
theorem apart_shape {g k N p : Nat} {w w' : World} {x y z : Value} (hg : g < N) (hr : StepR g k w w') (hp : N ≤ p) (h : w.heap[p]? = some (.cells #[x, y, z] 32 (0, 0))) : ∃ x2 y2 z2, w'.heap[p]? = some (.cells #[x2, y2, z2] 32 (0, 0)) := by
  unfold StepR at hr
  split at hr
  · obtain ⟨b, x1, y1, z1, u, v, s, h1, h2, h3⟩ := hr
    by_cases e : p = b
    · subst e; exact ⟨u, v, s, h2⟩
    · exact ⟨x, y, z, (h3.block p (Array.getElem?_eq_some_iff.1 h).1 (by simpa using e)).trans h⟩
  · exact ⟨x, y, z, (hr.block p (Array.getElem?_eq_some_iff.1 h).1 (by simp; omega)).trans h⟩
/-- Which block a step of the three stores changes. -/
def blk3 (b4 b5 b6 k : Nat) : Option Nat := ([none, none, none, some b4, some b5, some b6] : List (Option Nat)).getD k none
theorem blk3_4 {b4 b5 b6 j : Nat} (h : j ≠ 3) (h45 : b4 ≠ b5) (h46 : b4 ≠ b6) : some b4 ≠ blk3 b4 b5 b6 j := by
  unfold blk3
  rcases j with _ | _ | _ | _ | _ | _ | j <;> simp_all
theorem blk3_5 {b4 b5 b6 j : Nat} (h : j ≠ 4) (h45 : b4 ≠ b5) (h56 : b5 ≠ b6) : some b5 ≠ blk3 b4 b5 b6 j := by
  unfold blk3
  rcases j with _ | _ | _ | _ | _ | _ | j <;> simp_all <;> omega
theorem blk3_6 {b4 b5 b6 j : Nat} (h : j ≠ 5) (h46 : b4 ≠ b6) (h56 : b5 ≠ b6) : some b6 ≠ blk3 b4 b5 b6 j := by
  unfold blk3
  rcases j with _ | _ | _ | _ | _ | _ | j <;> simp_all <;> omega
def Sh (b : Nat) (w : World) : Prop := ∃ x y z : Value, w.heap[b]? = some (.cells #[x, y, z] 29 (0, 0))
theorem Sh.st {b b' : Nat} {w : World} (h : Sh b w) (k : Sh b' w) (p q u : Value) : Sh b (((w.setCell ⟨b', 0, none⟩ p).setCell ⟨b', 1, none⟩ q).setCell ⟨b', 2, none⟩ u) := by
  obtain ⟨x, y, z, h1⟩ := h
  obtain ⟨x', y', z', h2⟩ := k
  by_cases e : b = b'
  · subst e; exact ⟨p, q, u, st3all h2 p q u⟩
  · exact ⟨x, y, z, st_far3 h1 e p q u⟩
theorem WB.sh {B b : Nat} {now ord : Int} {r : Value} {L : List T3} {w : World} (h : WB B b now ord r L w) : Sh b w := ⟨_, _, _, h.wire⟩
end Lnk
end Go.Proofs.Ytjgbidnijfecoaa
