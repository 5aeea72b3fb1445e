/- Distances, as the law reads it; the root of a number within the reach. -/
import Derived.Test.YtmmikihkfpkapaaTravelL
namespace Go.Proofs.Ytmmikihkfpkapaa
open Go.RowKit
namespace Trav
theorem ce_le {m r : Int} (m0 : 0 ≤ m) (m9 : m ≤ 4611686018427387904) (r0 : 0 ≤ r) (h : m ≤ r * r) : Root.rt m 32 ≤ Root.ce m ∧ Root.ce m ≤ r := by
  obtain ⟨a0, _, s0, s1⟩ := Root.rt_spec m m0 m9
  unfold Root.ce
  have h1 := Root.sq_le_of a0 (Int.le_trans s0 h) r0
  by_cases hc : Root.rt m 32 * Root.rt m 32 < m
  · rw [if_pos hc]
    refine ⟨by omega, ?_⟩
    by_cases he : Root.rt m 32 = r
    · rw [he] at hc; omega
    · omega
  · rw [if_neg hc]; exact ⟨by omega, h1⟩
def InD (lo hi : List Int) (s time d : Int) : Prop := ∀ q1 q2 : Nat, (q1 : Int) = d / s → (q2 : Int) = (d + s - 1) / s → lo.getD q1 0 ≤ time ∧ time ≤ hi.getD q2 0
set_option maxRecDepth 100000 in
theorem dist_law (s : Int) (b1 b2 n c1 c2 : Nat) (lo hi : List Int) (time : Int) (w0 : World) (h : TV w0 s b1 b2 n lo hi) :
    (∃ F T : Int, 0 ≤ F ∧ F ≤ T ∧ T ≤ s * ((n : Int) - 1) ∧ (∀ (d : Int) (q1 q2 : Nat), 0 ≤ d → d ≤ s * ((n : Int) - 1) → (q1 : Int) = d / s → (q2 : Int) = (d + s - 1) / s → q1 < n → q2 < n → ((lo.getD q1 0 ≤ time ∧ time ≤ hi.getD q2 0) ↔ (F ≤ d ∧ d ≤ T))) ∧
      ∀ w, TV w s b1 b2 n lo hi → Calls Try.prog 92 #[.agg #[.int .i64 s, .slice (some ⟨b1, 0, none⟩) n c1, .slice (some ⟨b2, 0, none⟩) n c2], .int .i64 time] w fun r w' => r = .returned (.tuple #[.int .i64 F, .int .i64 T, .int .i64 0]) ∧ Below w.heap.size w w') ∨
    ((∀ (d : Int) (q1 q2 : Nat), 0 ≤ d → d ≤ s * ((n : Int) - 1) → (q1 : Int) = d / s → (q2 : Int) = (d + s - 1) / s → q1 < n → q2 < n → ¬ (lo.getD q1 0 ≤ time ∧ time ≤ hi.getD q2 0)) ∧
      ∀ w, TV w s b1 b2 n lo hi → Calls Try.prog 92 #[.agg #[.int .i64 s, .slice (some ⟨b1, 0, none⟩) n c1, .slice (some ⟨b2, 0, none⟩) n c2], .int .i64 time] w fun r w' => r = .returned (.tuple #[.int .i64 0, .int .i64 0, .int .i64 24]) ∧ Below w.heap.size w w') := by
  have hs := h.s1
  obtain ⟨f, hf, hF⟩ := thr (fun j => hi.getD j 0 < time) n (fun i j hij hj hh => by have := (h.mono i j hij hj).2; omega)
  obtain ⟨g, hg, hG⟩ := thr (fun j => lo.getD j 0 ≤ time) n (fun i j hij hj hh => by have := (h.mono i j hij hj).1; omega)
  have D := fun w (hw : TV w s b1 b2 n lo hi) => dist_any s b1 b2 n c1 c2 lo hi time f g w hw hf hg hF hG
  have K : ∀ (d : Int) (q1 q2 : Nat), (q1 : Int) = d / s → (q2 : Int) = (d + s - 1) / s → q1 < n → q2 < n → ((lo.getD q1 0 ≤ time ∧ time ≤ hi.getD q2 0) ↔ (d < (g : Int) * s ∧ ((f : Int) - 1) * s + 1 ≤ d)) := by
    intro d q1 q2 e1 e2 l1 l2
    have a1 := hG q1 l1
    have a2 := hF q2 l2
    have c1 : d / s < g ↔ d < g * s := Int.ediv_lt_iff_lt_mul (by omega)
    have c2 : (f : Int) ≤ (d + s - 1) / s ↔ (f : Int) * s ≤ d + s - 1 := Int.le_ediv_iff_mul_le (by omega)
    have e3 : ((f : Int) - 1) * s = f * s - s := by rw [Int.sub_mul, Int.one_mul]
    rw [e3]
    constructor
    · rintro ⟨x, y⟩
      have := a1.1 x
      have : ¬ q2 < f := fun hh => by have := a2.2 hh; omega
      exact ⟨c1.1 (by omega), by have := c2.1 (by omega); omega⟩
    · rintro ⟨x, y⟩
      have u := c1.2 x
      have v := c2.2 (by omega)
      exact ⟨a1.2 (by omega), by have : ¬ hi.getD q2 0 < time := fun hh => by have := a2.1 hh; omega
                                 omega⟩
  clear hF hG
  by_cases hc : f < n ∧ 0 < g ∧ max (((f : Int) - 1) * s + 1) 0 ≤ min ((g : Int) * s - 1) (s * ((n : Int) - 1))
  · refine .inl ⟨_, _, ?_, hc.2.2, ?_, fun d q1 q2 d0 d1 e1 e2 l1 l2 => (K d q1 q2 e1 e2 l1 l2).trans ?_, fun w hw => (D w hw).mono ?_⟩
    · omega
    · omega
    · constructor
      · rintro ⟨x, y⟩; omega
      · rintro ⟨x, y⟩; omega
    · rintro r w' ⟨hd, hb⟩
      rcases hd with ⟨_, _, _, rfl⟩ | ⟨hd, _⟩
      · exact ⟨rfl, hb⟩
      · exfalso; omega
  · refine .inr ⟨fun d q1 q2 d0 d1 e1 e2 l1 l2 hh => hc ?_, fun w hw => (D w hw).mono ?_⟩
    · have hk := (K d q1 q2 e1 e2 l1 l2).1 hh
      have hfn : f < n := by
        refine Classical.byContradiction fun hn => ?_
        obtain rfl : f = n := by omega
        have e3 : ((f : Int) - 1) * s = s * ((f : Int) - 1) := Int.mul_comm _ _
        omega
      have hg0 : 0 < g := by
        refine Classical.byContradiction fun hn => ?_
        obtain rfl : g = 0 := by omega
        have := hk.1
        simp at this
        omega
      exact ⟨hfn, hg0, by omega⟩
    · rintro r w' ⟨hd, hb⟩
      rcases hd with ⟨x, y, z, _⟩ | ⟨_, rfl⟩
      · exact absurd ⟨x, y, z⟩ hc
      · exact ⟨rfl, hb⟩
end Trav
end Go.Proofs.Ytmmikihkfpkapaa
