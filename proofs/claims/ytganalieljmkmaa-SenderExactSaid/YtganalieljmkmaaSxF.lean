/- Copies of lists of strings. -/
import Derived.Test.YtganalieljmkmaaSxD
import Derived.Laws.AppendOwn
import Derived.Deep.AppendSrc
import Derived.Deep.Upon
set_option linter.unusedVariables false
set_option linter.unusedSimpArgs false
namespace Go.Proofs.Ytganalieljmkmaa
open Go.RowKit Dice Wi
namespace Sx
open Snd (infoS)
/-- An own row with the strings S. -/
def OwS (w : World) (B : Nat) (v : Value) (S : LS) : Prop := w.ownsRow B 9 1 v S.length (S.map Value.string)
theorem OwS.stw {w : World} {B : Nat} {v : Value} {S : LS} (h : OwS w B v S) : Stw w v S := by
  have hc := fun g => World.ownsRow.cells (g := g) h
  rcases h.2 with ⟨rfl, h0⟩ | ⟨g, cap, cur, rfl, hb, hg, h1, h2, _⟩
  · obtain rfl : S = [] := List.length_eq_zero_iff.1 h0
    exact Stw.nil w
  · refine ⟨_, cap, rfl, h1, h2, fun k s hs => ⟨g, 0, rfl, (Array.getElem?_eq_some_iff.1 hg).1, ?_⟩⟩
    have := hc g rfl k (.string s) (by rw [List.getElem?_map, hs]; rfl)
    rwa [show (⟨g, 0, none⟩ : Addr).add k = ⟨g, 0 + k, none⟩ by unfold Addr.add; split <;> simp_all] at this
theorem OwS.ne {w : World} {B d : Nat} {v : Value} {S : LS} (h : OwS w B v S) (hd : d < B) : S ≠ [] → v.ownBlock ≠ some d := fun _ e => by have := (World.ownsRow.lt h d e).1; omega
theorem OwS.form {w : World} {B : Nat} {v : Value} {S : LS} (h : OwS w B v S) : ∃ a c, v = .slice a S.length c := by
  rcases h.2 with ⟨rfl, h0⟩ | ⟨g, cap, cur, rfl, _⟩
  · exact ⟨none, 0, by rw [h0]⟩
  · exact ⟨_, _, rfl⟩
theorem str_one (S : LS) : ∀ u ∈ S.map Value.string, u.oneCell' = true := fun u hu => by obtain ⟨m, _, rfl⟩ := List.mem_map.1 hu; rfl
theorem Stw.rd {w : World} {a : Addr} {n c : Nat} {S : LS} (h : Stw w (.slice (some a) n c) S) : ∀ (j : Nat) (u : Value), (S.map Value.string)[j]? = some u → w.cell? (a.add j) = some u := by
  intro j u hu
  obtain ⟨ad, c', e, _, _, hf⟩ := h
  cases e
  rw [List.getElem?_map] at hu
  cases hs : S[j]? with
  | none => rw [hs] at hu; simp at hu
  | some s =>
    rw [hs] at hu
    simp at hu
    obtain ⟨g, o, ea, _, hq⟩ := hf j s hs
    cases ea
    rw [← hu, show (⟨g, o, none⟩ : Addr).add j = ⟨g, o + j, none⟩ by unfold Addr.add; split <;> simp_all]
    exact hq
theorem run_copys {w : World} {u : Value} {S : LS} (hu : Stw w u S) (h9 : S.length ≤ 1000000) (ty : TypeId) :
    ∃ v' w', (Builtin.append_ #[23, 23] ty #[.slice none 0 0, u]).run Try.prog w = .ok v' w' ∧ OwS w' w.heap.size v' S ∧ w.grownBy w' none := by
  obtain ⟨j0, hj0, hz0', hz1', hz2'⟩ := info_parts infoS
  have h0 : w.ownsRow w.heap.size 9 1 (.slice none 0 0) 0 [] := World.ownsRow_nil _ _ _ _
  obtain ⟨a, n, c, rfl⟩ := hu.form
  have hn := (Stw.len hu).1
  rcases a with _ | g
  · obtain rfl : S = [] := by
      obtain ⟨ad, c', e, _, _, hf⟩ := hu
      cases e
      cases S with
      | nil => rfl
      | cons s l => obtain ⟨g, o, e, _⟩ := hf 0 s rfl; cases e
    obtain rfl : n = 0 := hn
    have hs : Src Try.prog j0.size 23 (.slice none 0 c) 0 [] w := Src.ofNil w Try.underlying23 c
    exact ⟨_, w, run_append_nothing w _ _ ty 9 j0 Try.underlying23 hj0 none 0 0 (Nat.le_refl _) _ hs, h0, ⟨rfl, rfl, rfl, Nat.le_refl _, fun _ _ _ => rfl⟩⟩
  · obtain ⟨v', w', hr, r2, r3, _⟩ := run_append_own (P := Try.prog) w w.heap.size 23 ty 9 j0 _ 1 16 Try.underlying23 hj0 hz0' hz1' hz2' rfl (by decide) (.slice none 0 0) 0 [] h0 g n c (S.map Value.string) (by simp [hn]) hu.rd (str_one S) (by unfold maxLen; omega) (by omega) (Nat.le_refl _)
    exact ⟨v', w', hr, by unfold OwS; rw [← hn]; simpa using r2, r3⟩
theorem wp_copys {o : Oper} {a : Act} {K' : Act → World → Prop} {Q : Exit → Act → World → Prop} (x : Operand)
    (ho : o.op = .call { callee := .builtin .append, args := #[.const (.slice none 0 0), x], argTypes := #[23, 23] })
    {w : World} {u : Value} {S : LS} (hx : a.eval x = u) (hu : Stw w u S) (h9 : S.length ≤ 1000000)
    (hK : ∀ v' w', OwS w' w.heap.size v' S → Below w.heap.size w w' → K' (a.put o.dst v') w') : o.wp Try.prog a w K' Q := by
  obtain ⟨v', w', hr, r1, r2⟩ := run_copys hu h9 o.type
  have hv : a.eval (.const (.slice none 0 0)) = .slice none 0 0 := rfl
  unfold Oper.wp execOp
  simp only [ho, resolve, invoke, builtin, Sem.run_bind, Sem.run_pure, Result.andThen_ok, List.map_toArray, List.map_cons, List.map_nil, hx, hv, hr]
  exact hK v' w' r1 ((Below.refl _ _).grown r2 (Nat.le_refl _) fun k hk => by cases hk)
theorem wpl_copys {ops : Array Oper} {rest : List Oper} {o : Oper} {a : Act} {Q : Exit → Act → World → Prop} (hgd : o.guard = none) (x : Operand)
    (ho : o.op = .call { callee := .builtin .append, args := #[.const (.slice none 0 0), x], argTypes := #[23, 23] })
    {w : World} {u : Value} {S : LS} (hx : a.eval x = u) (hu : Stw w u S) (h9 : S.length ≤ 1000000)
    (hK : ∀ v' w', OwS w' w.heap.size v' S → Below w.heap.size w w' → wpList Try.prog ops Q rest (a.put o.dst v') w') : wpList Try.prog ops Q (o :: rest) a w :=
  wpList_plain hgd fun _ hKK => wp_copys x ho hx hu h9 fun v' w' h1 h2 => hKK _ _ (hK v' w' h1 h2)
/-- Two strings of a block are appended to an own row. -/
theorem wpl_two {ops : Array Oper} {rest : List Oper} {o : Oper} {a : Act} {Q : Exit → Act → World → Prop} (hgd : o.guard = none) (s x : Operand)
    (ho : o.op = .call { callee := .builtin .append, args := #[s, x], argTypes := #[23, 23] })
    {w : World} {B b : Nat} {v : Value} {S : LS} {s1 s2 : ByteArray} (hv : a.eval s = v) (hx : a.eval x = .slice (some ⟨b, 0, none⟩) 2 2) (h : OwS w B v S) (hb : w.heap[b]? = some (.cells #[.string s1, .string s2] 9 (0, 0))) (hB : B ≤ w.heap.size) (h9 : S.length ≤ 1000)
    (hK : ∀ v' w', OwS w' B v' (S ++ [s1, s2]) → w.grownBy w' v.ownBlock → wpList Try.prog ops Q rest (a.put o.dst v') w') : wpList Try.prog ops Q (o :: rest) a w := by
  obtain ⟨j0, hj0, hz0', hz1', hz2'⟩ := info_parts infoS
  refine wpList_append_own w hgd s x 23 ho B 9 j0 _ 1 16 Try.underlying23 hj0 hz0' hz1' hz2' rfl (by decide) v S.length (S.map Value.string) hv h ⟨b, 0, none⟩ 2 2 [.string s1, .string s2] hx rfl (World.news_of_block hb) (by simp [Value.oneCell']) (by unfold maxLen; omega) (by omega) hB fun v' w' ho' hg _ => hK v' w' ?_ hg
  unfold OwS
  simpa using ho'
end Sx
end Go.Proofs.Ytganalieljmkmaa
