/- PrC: texts joined. -/
import Derived.Test.YtldgihlhioeipaaLlGQ
import Derived.Test.YtldgihlhioeipaaMisE
import Derived.Laws.StructEq
import Derived.Laws.ResultCell
import Derived.Test.YtldgihlhioeipaaPrB
import Derived.Test.YtldgihlhioeipaaInvAB
/- The example of the chapter. -/
set_option linter.unusedVariables false
set_option linter.unusedSimpArgs false
namespace Go.Proofs.Ytldgihlhioeipaa
open Go.RowKit
namespace Loc
open Mis
theorem intsU {w : World} {b : Nat} {u : Int} (h : w.heap[b]? = some (.cells #[.int .i64 0, .int .i64 u] 3 (0, 0))) : Src.Ints w b [0, u] := by
  intro j hj
  obtain ⟨h0, h1⟩ := cell2 h
  simp at hj
  obtain rfl | rfl : j = 0 ∨ j = 1 := by omega
  · exact h0
  · exact h1
def OT (b1 b2 : Nat) (w : World) : Prop := Trav.TV w 10 b1 b2 2 [0, 5] [0, 7]
theorem one_tv {w : World} {b1 b2 : Nat} (h1 : w.heap[b1]? = some (.cells #[.int .i64 0, .int .i64 5] 3 (0, 0))) (h2 : w.heap[b2]? = some (.cells #[.int .i64 0, .int .i64 7] 3 (0, 0))) : OT b1 b2 w :=
  ⟨intsU h1, intsU h2, rfl, rfl, by decide, by decide, by decide, by decide, fun k hk => by rcases (show k = 0 ∨ k = 1 by omega) with rfl | rfl <;> decide,
    fun i j hij hj => by
      rcases (show j = 0 ∨ j = 1 by omega) with rfl | rfl <;> rcases (show i = 0 ∨ i = 1 by omega) with rfl | rfl <;> first | decide | omega, (Array.getElem?_eq_some_iff.1 h1).1, (Array.getElem?_eq_some_iff.1 h2).1⟩
def po : Ph := ⟨0, 0, 0, 100, 102, 1⟩
theorem po_only {k : Nat} {q : Ph} (h : [po][k]? = some q) : q = po := by
  rcases k with _ | k <;> simp at h
  exact h.symm
theorem one_pk (b1 b2 : Nat) : Pk (OT b1 b2) 0 0 0 0 0 0 10 b1 b2 2 2 2 3 [po] := by
  refine ⟨fun w w' h hb => Trav.TV.below h hb, bv0, fun w h => Trav.validate_yes 10 b1 b2 2 2 2 [0, 5] [0, 7] w h, by decide, by decide, by decide, by decide, fun k q h => ?_, fun k q h w ht => ?_⟩
  · obtain rfl := po_only h
    exact ⟨pv0, by decide, by decide, by decide, by decide, by decide⟩
  · obtain rfl := po_only h
    refine (Bound.interval_ok 10 b1 b2 2 2 2 [0, 5] [0, 7] 0 0 0 0 0 0 0 0 0 0 0 w ht bv0 pv0 ?_ ?_ ?_).mono fun e w' ⟨he, hb⟩ => ⟨⟨_, _, he⟩, hb⟩
    · rw [far0, ce0]; decide
    · rw [near0, rt0]; decide
    · rw [far0, ce0]; decide
theorem one_zone (b1 b2 : Nat) (k : Nat) (q : Ph) (h : [po][k]? = some q) (w : World) (ht : OT b1 b2 w) :
    Calls Try.prog 73 #[.agg #[.int .i64 10, .slice (some ⟨b1, 0, none⟩) 2 2, .slice (some ⟨b2, 0, none⟩) 2 2], .agg #[.int .i64 0, .int .i64 0, .int .i64 0, .int .i64 0, .int .i64 0, .int .i64 0], .agg #[.int .i64 q.x, .int .i64 q.y, .int .i64 q.z, .int .i64 q.E, .int .i64 q.L, .int .i64 q.W]] w fun r w' => r = .returned (.tuple #[.agg #[.int .i64 (q.E, q.L).1, .int .i64 (q.E, q.L).2], .int .i64 0]) ∧ Below w.heap.size w w' := by
  obtain rfl := po_only h
  have := Bound.zone_ok 10 b1 b2 2 2 2 [0, 5] [0, 7] 0 0 0 0 0 0 0 0 0 100 102 1 0 0 w ht bv0 ⟨pv0, by decide, by decide, by decide, by decide, by decide⟩ (by rw [far0, ce0]; decide) (by rw [near0, rt0]; decide) (by rw [far0, ce0]; decide) (by decide) (by decide) (by decide)
  simpa [po] using this
theorem one_cs : Cs 3 [po] ([po].map fun q => (q.E, q.L)) := by
  refine ⟨by decide, by decide, by decide, by decide, by decide, fun k q h => ?_, fun k q h => ?_⟩
  · obtain rfl := po_only h
    decide
  · rcases k with _ | k <;> simp [po] at h
    subst h; decide
theorem one_best : best 3 (wt [po]) (zn ([po].map fun q => (q.E, q.L))) 1 = (100, 0) := by decide +kernel
def Ak1 : Ask := ⟨fun _ => 0, fun _ => (100, 0), fun B => (B, B)⟩
def R0 : Bx := ⟨0, 0, 0, 0, 0, 0⟩
theorem sb_r0 {B : Bx} (h : Sb R0 B) : B = R0 := by
  obtain ⟨a, b, c, d, e, f⟩ := B
  obtain ⟨h1, h2, h3, h4, h5, h6, h7, h8, h9⟩ := h
  simp only [R0] at *
  obtain rfl : a = 0 := by omega
  obtain rfl : b = 0 := by omega
  obtain rfl : c = 0 := by omega
  obtain rfl : d = 0 := by omega
  obtain rfl : e = 0 := by omega
  obtain rfl : f = 0 := by omega
  rfl
theorem in_r0 {p : P3} (h : inB R0 p) : p = (0, 0, 0) := by
  unfold inB R0 at h
  simp only at h
  obtain ⟨x, y, z⟩ := p
  simp only at h
  obtain rfl : x = 0 := by omega
  obtain rfl : y = 0 := by omega
  obtain rfl : z = 0 := by omega
  rfl
theorem wi0 : Geo.wiB 0 0 0 0 0 0 0 0 0 0 0 0 = true := by decide
theorem pr1 {w : World} {b1 b2 gp : Nat} (ht : OT b1 b2 w) (hp : PhR w gp [po]) : Pr w Ak1 R0 ⟨10, b1, 2, 2, b2, 2, 2, gp, 1, 1, 3⟩ where
  bound w' h' B hB := by
    obtain rfl := sb_r0 hB
    have := bound_any (one_pk b1 b2) ((one_pk b1 b2).stab _ _ ht h') (hp.below h') (n := 1) (c := 1) rfl (Nat.le_refl _) 0 0 0 0 0 0 (fun q => (q.E, q.L)) bv0 wi0 (one_zone b1 b2) one_cs
    rw [one_best] at this
    exact this
  at_ w' h' p hp' := by
    obtain rfl := in_r0 hp'
    have := at_any (one_pk b1 b2) ((one_pk b1 b2).stab _ _ ht h') (hp.below h') (n := 1) (c := 1) rfl (Nat.le_refl _) 0 0 0 (fun q => (q.E, q.L)) bv0 wi0 (one_zone b1 b2) one_cs
    rw [one_best] at this
    exact this
  vl w' h' := validate_any (one_pk b1 b2) ((one_pk b1 b2).stab _ _ ht h') (hp.below h') rfl (Nat.le_refl _)
  sp B hB h1 := by obtain rfl := sb_r0 hB; exact absurd h1 (by decide)
  good := ⟨⟨by decide, by decide, by decide, by decide, by decide, by decide, by decide, by decide, by decide⟩, fun B hB h1 => by obtain rfl := sb_r0 hB; exact absurd h1 (by decide)⟩
  bv B hB := by obtain rfl := sb_r0 hB; exact bv0
  f0 B hB := by show (0 : Int) ≤ 0 ∧ (0 : Int) ≤ _; decide
  g0 p hp' := by show (0 : Int) ≤ 0 ∧ (0 : Int) ≤ _; decide
  few := by decide
end Loc
end Go.Proofs.Ytldgihlhioeipaa

/- The law's example. -/
set_option linter.unusedVariables false
set_option linter.unusedSimpArgs false
namespace Go.Proofs.Ytldgihlhioeipaa
open Go.RowKit
namespace Loc
open Mis
theorem row_one {P : Program} {fn : Func} {p : Tmp} {ty : TypeId} (h : fn.results = #[.cell p ty]) (tmps : Array Value) (w : World) (g : Nat) (t : TypeId) (cs : Array Value) (fr : Nat × Nat) (d : TypeDesc)
    (hp : tmps.getD p undef = .pointer (some ⟨g, 0, none⟩)) (hg : w.heap[g]? = some (.cells cs t fr))
    (hu : P.underlying ty = some d) (hd : (match d with | .struct _ | .array _ _ => true | _ => false) = true) (hi : (P.info? ty).map (·.size) = some cs.size) :
    (results fn tmps).run P w = .ok (.agg cs) w := by
  have hp' : tmps[p]?.getD undef = .pointer (some ⟨g, 0, none⟩) := by simpa using hp
  simp [results, h, hp', asAddr, run_loadVar_row w g t ty cs fr d hg hu hd hi]
def OneSaid (w : World) (e : Ending) (w' : World) : Prop := ∃ b1 b2 gp : Nat, e = .returned (.agg #[.int .i64 0, .int .i64 0, .int .i64 0, .int .i64 0, .int .i64 0, .int .i64 0, .int .i64 10, .slice (some ⟨b1, 0, none⟩) 2 2, .slice (some ⟨b2, 0, none⟩) 2 2, .slice (some ⟨gp, 0, none⟩) 1 1, .int .i64 3]) ∧ OT b1 b2 w' ∧ PhR w' gp [po] ∧ Below w.heap.size w w'
theorem phR_one {w : World} {g : Nat} (h : w.heap[g]? = some (.cells #[.int .i64 0, .int .i64 0, .int .i64 0, .int .i64 100, .int .i64 102, .int .i64 1] 63 (0, 0))) : PhR w g [po] :=
  ⟨(Array.getElem?_eq_some_iff.1 h).1, fun k p hp => by
    rcases k with _ | k
    · obtain rfl : p = po := by simpa using hp.symm
      exact ⟨cell_of_row w g 0 _ _ _ h, cell_of_row w g 1 _ _ _ h, cell_of_row w g 2 _ _ _ h, cell_of_row w g 3 _ _ _ h, cell_of_row w g 4 _ _ _ h, cell_of_row w g 5 _ _ _ h⟩
    · simp at hp⟩
end Loc
end Go.Proofs.Ytldgihlhioeipaa

/- The examples of law 29. -/
set_option linter.unusedVariables false
set_option linter.unusedSimpArgs false
namespace Go.Proofs.Ytldgihlhioeipaa
open Go.RowKit
namespace Loc
namespace Prf
open Mis
set_option maxHeartbeats 16000000 in
set_option maxRecDepth 100000 in
theorem one29_any (w : World) : Calls Try.prog 15 #[] w (OneSaid w) := by
  obtain ⟨w4, hw4⟩ : ∃ z, z = (((w.alloc (.cells #[.int .i64 0, .int .i64 0, .int .i64 0, .int .i64 0, .int .i64 0, .int .i64 0, .int .i64 0, .slice none 0 0, .slice none 0 0, .slice none 0 0, .int .i64 0] 36)).alloc (.cells #[.int .i64 0, .int .i64 5] 3)).alloc (.cells #[.int .i64 0, .int .i64 7] 3)).alloc (.cells #[.int .i64 0, .int .i64 0, .int .i64 0, .int .i64 100, .int .i64 102, .int .i64 1] 63) := ⟨_, rfl⟩
  have A1 : (w.alloc (.cells #[.int .i64 0, .int .i64 0, .int .i64 0, .int .i64 0, .int .i64 0, .int .i64 0, .int .i64 0, .slice none 0 0, .slice none 0 0, .slice none 0 0, .int .i64 0] 36)).heap.size = w.heap.size + 1 := by simp
  have A2 : ((w.alloc (.cells #[.int .i64 0, .int .i64 0, .int .i64 0, .int .i64 0, .int .i64 0, .int .i64 0, .int .i64 0, .slice none 0 0, .slice none 0 0, .slice none 0 0, .int .i64 0] 36)).alloc (.cells #[.int .i64 0, .int .i64 5] 3)).heap.size = w.heap.size + 2 := by simp
  have A3 : (((w.alloc (.cells #[.int .i64 0, .int .i64 0, .int .i64 0, .int .i64 0, .int .i64 0, .int .i64 0, .int .i64 0, .slice none 0 0, .slice none 0 0, .slice none 0 0, .int .i64 0] 36)).alloc (.cells #[.int .i64 0, .int .i64 5] 3)).alloc (.cells #[.int .i64 0, .int .i64 7] 3)).heap.size = w.heap.size + 3 := by simp
  have W0 := Lib.hid (show Below w.heap.size w w4 by rw [hw4]; exact (((new_block _).alloc (by simp) _).alloc (by first | (simp; done) | (simp; omega)) _).alloc (by first | (simp; done) | (simp; omega)) _)
  have P0 := Lib.hid (show w4.heap[w.heap.size]? = some (.cells #[.int .i64 0, .int .i64 0, .int .i64 0, .int .i64 0, .int .i64 0, .int .i64 0, .int .i64 0, .slice none 0 0, .slice none 0 0, .slice none 0 0, .int .i64 0] 36 (0, 0)) by rw [hw4]; exact ((new_block _).block _ (by first | (simp; done) | (simp; omega))).trans (((new_block _).block _ (by first | (simp; done) | (simp; omega))).trans (((new_block _).block _ (by simp)).trans (heap_alloc_new w _))))
  have Q1 := Lib.hid (show w4.heap[w.heap.size + 1]? = some (.cells #[.int .i64 0, .int .i64 5] 3 (0, 0)) by rw [hw4]; exact ((new_block _).block _ (by first | (simp; done) | (simp; omega))).trans (((new_block _).block _ (by simp)).trans (by rw [← A1]; exact heap_alloc_new _ _)))
  have Q2 := Lib.hid (show w4.heap[w.heap.size + 2]? = some (.cells #[.int .i64 0, .int .i64 7] 3 (0, 0)) by rw [hw4]; exact ((new_block _).block _ (by simp)).trans (by rw [← A2]; exact heap_alloc_new _ _))
  have Q3 := Lib.hid (show w4.heap[w.heap.size + 3]? = some (.cells #[.int .i64 0, .int .i64 0, .int .i64 0, .int .i64 100, .int .i64 102, .int .i64 1] 63 (0, 0)) by rw [hw4, ← A3]; exact heap_alloc_new _ _)
  have PW : Hid (∀ z, z = w4 → z.heap[w.heap.size]? = some (.cells #[.int .i64 0, .int .i64 0, .int .i64 0, .int .i64 0, .int .i64 0, .int .i64 0, .int .i64 0, .slice none 0 0, .slice none 0 0, .slice none 0 0, .int .i64 0] 36 (0, 0))) := Lib.hid fun z hz => by rw [hz]; exact P0.out
  go_enter Try.func15, Try.ntmps15
  go_wp2_with ((with_reducible refine Mid.str 36 (.tmp 0) (.tmp 6) w.heap.size 36 #[.int .i64 0, .int .i64 0, .int .i64 0, .int .i64 0, .int .i64 0, .int .i64 0, .int .i64 0, .slice none 0 0, .slice none 0 0, .slice none 0 0, .int .i64 0] #[.int .i64 0, .int .i64 0, .int .i64 0, .int .i64 0, .int .i64 0, .int .i64 0, .int .i64 10, .slice (some ⟨w.heap.size + 1, 0, none⟩) 2 2, .slice (some ⟨w.heap.size + 2, 0, none⟩) 2 2, .slice (some ⟨w.heap.size + 3, 0, none⟩) 1 1, .int .i64 3] (PW.out _ hw4.symm) ?_ ?_ ?_ ?_ ?_ ?_ ?_ ?_); (· rfl); (· rfl); (· first | rfl | simp [Act.eval]); (· first | rfl | simp [Act.eval]); (· kernel_rfl); (· rfl); (· simp [Value.oneCell']))
  try simp only [Act.put]
  rw [← hw4]
  clear PW A1 A2 A3 hw4
  have ZF : (w4.setRow w.heap.size #[.int .i64 0, .int .i64 0, .int .i64 0, .int .i64 0, .int .i64 0, .int .i64 0, .int .i64 10, .slice (some ⟨w.heap.size + 1, 0, none⟩) 2 2, .slice (some ⟨w.heap.size + 2, 0, none⟩) 2 2, .slice (some ⟨w.heap.size + 3, 0, none⟩) 1 1, .int .i64 3]).heap[w.heap.size]? = some (.cells #[.int .i64 0, .int .i64 0, .int .i64 0, .int .i64 0, .int .i64 0, .int .i64 0, .int .i64 10, .slice (some ⟨w.heap.size + 1, 0, none⟩) 2 2, .slice (some ⟨w.heap.size + 2, 0, none⟩) 2 2, .slice (some ⟨w.heap.size + 3, 0, none⟩) 1 1, .int .i64 3] 36 (0, 0)) := setRow_heap _ _ _ _ _ _ P0.out
  have T1 : (w4.setRow w.heap.size #[.int .i64 0, .int .i64 0, .int .i64 0, .int .i64 0, .int .i64 0, .int .i64 0, .int .i64 10, .slice (some ⟨w.heap.size + 1, 0, none⟩) 2 2, .slice (some ⟨w.heap.size + 2, 0, none⟩) 2 2, .slice (some ⟨w.heap.size + 3, 0, none⟩) 1 1, .int .i64 3]).heap[w.heap.size + 1]? = some (.cells #[.int .i64 0, .int .i64 5] 3 (0, 0)) := (setRow_other _ _ _ _ (by omega)).trans Q1.out
  have T2 : (w4.setRow w.heap.size #[.int .i64 0, .int .i64 0, .int .i64 0, .int .i64 0, .int .i64 0, .int .i64 0, .int .i64 10, .slice (some ⟨w.heap.size + 1, 0, none⟩) 2 2, .slice (some ⟨w.heap.size + 2, 0, none⟩) 2 2, .slice (some ⟨w.heap.size + 3, 0, none⟩) 1 1, .int .i64 3]).heap[w.heap.size + 2]? = some (.cells #[.int .i64 0, .int .i64 7] 3 (0, 0)) := (setRow_other _ _ _ _ (by omega)).trans Q2.out
  have T3 : (w4.setRow w.heap.size #[.int .i64 0, .int .i64 0, .int .i64 0, .int .i64 0, .int .i64 0, .int .i64 0, .int .i64 10, .slice (some ⟨w.heap.size + 1, 0, none⟩) 2 2, .slice (some ⟨w.heap.size + 2, 0, none⟩) 2 2, .slice (some ⟨w.heap.size + 3, 0, none⟩) 1 1, .int .i64 3]).heap[w.heap.size + 3]? = some (.cells #[.int .i64 0, .int .i64 0, .int .i64 0, .int .i64 100, .int .i64 102, .int .i64 1] 63 (0, 0)) := (setRow_other _ _ _ _ (by omega)).trans Q3.out
  exact bodyPost_ret (row_one rfl _ _ w.heap.size _ _ _ _ rfl ZF rfl (by rfl) rfl) rfl ⟨_, _, _, rfl, one_tv T1 T2, phR_one T3, Mid.below_row W0.out _ _ (Nat.le_refl _)⟩
set_option maxHeartbeats 16000000 in
set_option maxRecDepth 100000 in
theorem ints_same {w : World} {v u : Value} {c : List Int} (h1 : Lst w v c) (h2 : Lst w u c) (hl : c.length ≤ 100000) (h0 : 0 < c.length) :
    Calls Try.prog 16 #[v, u] w fun e w' => e = .returned (.bool true) ∧ Below w.heap.size w w' := by
  obtain ⟨b, o, cc, rfl, hcc, hbl, hc⟩ : ∃ b o cc : Nat, v = .slice (some ⟨b, o, none⟩) c.length cc ∧ c.length ≤ cc ∧ b < w.heap.size ∧ ∀ j (h : j < c.length), w.cell? ⟨b, o + j, none⟩ = some (.int .i64 c[j]) := by
    rcases h1 with ⟨rfl, _⟩ | h
    · simp at h0
    · exact h
  obtain ⟨b2, o2, cc2, rfl, hcc2, hbl2, hc2⟩ : ∃ b o cc : Nat, u = .slice (some ⟨b, o, none⟩) c.length cc ∧ c.length ≤ cc ∧ b < w.heap.size ∧ ∀ j (h : j < c.length), w.cell? ⟨b, o + j, none⟩ = some (.int .i64 c[j]) := by
    rcases h2 with ⟨rfl, _⟩ | h
    · simp at h0
    · exact h
  replace hc := Lib.hid hc
  replace hc2 := Lib.hid hc2
  obtain ⟨n, hn⟩ : ∃ n, n = c.length := ⟨_, rfl⟩
  rw [← hn] at hcc hcc2 hl h0 ⊢
  replace hn := Lib.hid hn
  clear h1 h2
  have BW : Hid (Below w.heap.size w w) := Lib.hid (Below.refl _ _)
  have e0 : ((n : Int) != (n : Int)) = false := by simp
  go_enter Try.func16, Try.ntmps16
  go_wp2_with fail
  go_loopw [13] (fun i wr => ∃ k : Nat, i = .int .i64 (k : Int) ∧ k ≤ n ∧ Hid (Below w.heap.size w wr)) (fun i _ => n - (intOf i).toNat)
  case atStart => exact ⟨0, rfl, Nat.zero_le _, BW⟩
  case round =>
    clear BW
    obtain ⟨k, rfl, hk, BW⟩ := hrel
    by_cases hkn : k < n
    · have k1 : (k : Int) < (n : Int) := by omega
      have hkc : k < c.length := by rw [← hn.out]; exact hkn
      have c1 : wr.cell? ⟨b, o + k, none⟩ = some (.int .i64 c[k]) := by rw [BW.out.cell (p := ⟨b, o + k, none⟩) hbl]; exact hc.out k hkc
      have c2 : wr.cell? ⟨b2, o2 + k, none⟩ = some (.int .i64 c[k]) := by rw [BW.out.cell (p := ⟨b2, o2 + k, none⟩) hbl2]; exact hc2.out k hkc
      generalize c[k] = z at c1 c2
      have e1 : (z != z) = false := by simp
      have e2 : (n : Int) ≤ (cc : Int) := by omega
      have e3 : (n : Int) ≤ (cc2 : Int) := by omega
      go_upto_region 6 with fail
      go_quiet (fail)
      go_wp2_with fail
      go_roundw
      case rel => exact ⟨k + 1, by go_num, by omega, Lib.hid (Buf.below_drewN BW.out _)⟩
      case measure => simp [intOf]; omega
    · have k1 : ¬ ((k : Int) < (n : Int)) := by omega
      go_wp2_with fail
      go_ret
      exact ⟨rfl, BW.out⟩
theorem lst_one {w : World} {b : Nat} {z : Int} (h : w.heap[b]? = some (.cells #[.int .i64 z] 3 (0, 0))) : Lst w (.slice (some ⟨b, 0, none⟩) 1 1) [z] :=
  .inr ⟨b, 0, 1, rfl, Nat.le_refl _, (Array.getElem?_eq_some_iff.1 h).1, fun j hj => by obtain rfl : j = 0 := (by simpa using hj); exact cell_of_row w b 0 _ _ _ h⟩
theorem lst_two {w : World} {b : Nat} {y z : Int} (h : w.heap[b]? = some (.cells #[.int .i64 y, .int .i64 z] 3 (0, 0))) : Lst w (.slice (some ⟨b, 0, none⟩) 2 2) [y, z] :=
  .inr ⟨b, 0, 2, rfl, Nat.le_refl _, (Array.getElem?_eq_some_iff.1 h).1, fun j hj => by
    rcases j with _ | _ | j
    · exact cell_of_row w b 0 _ _ _ h
    · exact cell_of_row w b 1 _ _ _ h
    · simp at hj; omega⟩
theorem one_own {w : World} {B : Nat} {v : Value} (h : w.ownsRow B 3 1 v ([0] : List Int).length (([0] : List Int).map fun z => .int .i64 z)) : ∃ g cc, v = .slice (some ⟨g, 0, none⟩) 1 cc ∧ 1 ≤ cc ∧ g < w.heap.size ∧ w.cell? ⟨g, 0, none⟩ = some (.int .i64 0) := by
  rcases Mis.own_shape h with ⟨_, e⟩ | ⟨g, cc, rfl, h1, h2, h3, h4⟩
  · cases e
  · have := World.ownsRow.cells (g := g) h rfl 0 (.int .i64 0) rfl
    exact ⟨g, cc, rfl, h1, h3, this⟩
theorem lc1 : Lc Ak1 R0 (⟨[], 1, 1, true, 0, 0, 0, 100, 0⟩ : St) 0 R0 := ⟨⟨by decide, by decide, by decide, by decide, by decide, by decide⟩, rfl, by decide, by decide⟩
set_option maxHeartbeats 16000000 in
set_option maxRecDepth 100000 in
theorem awake29_any (w : World) : Calls Try.prog 4 #[] w fun e w' => e = .returned (.bool true) ∧ Below w.heap.size w w' := by
  have MKT := Lib.hid fun (w' : World) (b1 b2 gp : Nat) (ht : OT b1 b2 w') (hp : PhR w' gp [po]) => make_top (FN := (⟨[], 1, 1, true, 0, 0, 0, 100, 0⟩ : St)) (lw := 0) (AA := R0) (tol := 0) (pr1 ht hp) lc1 (by decide) (by decide) (by decide) 1 (by decide) (c := [0]) (by kernel_rfl) (by decide)
  have C0 := Lib.hid fun (w' : World) (b1 b2 gp : Nat) (ht : OT b1 b2 w') (hp : PhR w' gp [po]) {cv : Value} (hc : Lst w' cv [0]) => check_top (FN := (⟨[], 1, 1, true, 0, 0, 0, 100, 0⟩ : St)) (lw := 0) (AA := R0) (tol := 0) (pr1 ht hp) lc1 (by decide) (by decide) (by decide) hc (by decide) 1 (by decide)
  have C1 := Lib.hid fun (w' : World) (b1 b2 gp : Nat) (ht : OT b1 b2 w') (hp : PhR w' gp [po]) {cv : Value} (hc : Lst w' cv [1, 0]) => check_top (FN := (⟨[], 1, 1, true, 0, 0, 0, 100, 0⟩ : St)) (lw := 0) (AA := R0) (tol := 0) (pr1 ht hp) lc1 (by decide) (by decide) (by decide) hc (by decide) 1 (by decide)
  have C2 := Lib.hid fun (w' : World) (b1 b2 gp : Nat) (ht : OT b1 b2 w') (hp : PhR w' gp [po]) {cv : Value} (hc : Lst w' cv []) => check_top (FN := (⟨[], 1, 1, true, 0, 0, 0, 100, 0⟩ : St)) (lw := 0) (AA := R0) (tol := 0) (pr1 ht hp) lc1 (by decide) (by decide) (by decide) hc (by decide) 1 (by decide)
  rw [show (if rd Ak1 (prv Ak1 (⟨[], 1, 1, true, 0, 0, 0, 100, 0⟩ : St).m 0 R0 0) 1 R0 [0] = some [] then (0 : Int) else 26) = 0 by decide +kernel] at C0
  rw [show (if rd Ak1 (prv Ak1 (⟨[], 1, 1, true, 0, 0, 0, 100, 0⟩ : St).m 0 R0 0) 1 R0 [1, 0] = some [] then (0 : Int) else 26) = 26 by decide +kernel] at C1
  rw [show (if rd Ak1 (prv Ak1 (⟨[], 1, 1, true, 0, 0, 0, 100, 0⟩ : St).m 0 R0 0) 1 R0 [] = some [] then (0 : Int) else 26) = 26 by decide +kernel] at C2
  go_enter Try.func4, Try.ntmps4
  go_upto_region 2 with ((with_reducible refine Mid.str 28 (.tmp 1) (.tmp 4) w.heap.size 28 #[.int .i64 0, .int .i64 0, .int .i64 0, .int .i64 0, .int .i64 0, .int .i64 0, .int .i64 0, .int .i64 0, .int .i64 0, .int .i64 0, .int .i64 0, .int .i64 0] #[.int .i64 0, .int .i64 0, .int .i64 0, .int .i64 100, .int .i64 0, .int .i64 0, .int .i64 0, .int .i64 0, .int .i64 0, .int .i64 0, .int .i64 0, .int .i64 0] (heap_alloc_new w _) ?_ ?_ ?_ ?_ ?_ ?_ ?_ ?_); (· rfl); (· rfl); (· first | rfl | simp [Act.eval]); (· first | rfl | simp [Act.eval]); (· kernel_rfl); (· rfl); (· simp [Value.oneCell']))
  try simp only [Act.put]
  have N1 : Below w.heap.size w ((w.alloc (.cells #[.int .i64 0, .int .i64 0, .int .i64 0, .int .i64 0, .int .i64 0, .int .i64 0, .int .i64 0, .int .i64 0, .int .i64 0, .int .i64 0, .int .i64 0, .int .i64 0] 28)).setRow w.heap.size #[.int .i64 0, .int .i64 0, .int .i64 0, .int .i64 100, .int .i64 0, .int .i64 0, .int .i64 0, .int .i64 0, .int .i64 0, .int .i64 0, .int .i64 0, .int .i64 0]) := Mid.below_row (Mis.new_block _) _ _ (Nat.le_refl _)
  have K1 := Lib.hid (show ((w.alloc (.cells #[.int .i64 0, .int .i64 0, .int .i64 0, .int .i64 0, .int .i64 0, .int .i64 0, .int .i64 0, .int .i64 0, .int .i64 0, .int .i64 0, .int .i64 0, .int .i64 0] 28)).setRow w.heap.size #[.int .i64 0, .int .i64 0, .int .i64 0, .int .i64 100, .int .i64 0, .int .i64 0, .int .i64 0, .int .i64 0, .int .i64 0, .int .i64 0, .int .i64 0, .int .i64 0]).heap[w.heap.size]? = some (.cells #[.int .i64 0, .int .i64 0, .int .i64 0, .int .i64 100, .int .i64 0, .int .i64 0, .int .i64 0, .int .i64 0, .int .i64 0, .int .i64 0, .int .i64 0, .int .i64 0] 28 (0, 0)) from setRow_heap _ _ _ _ _ _ (heap_alloc_new w _))
  obtain ⟨w1, hw1⟩ : ∃ z, z = (w.alloc (.cells #[.int .i64 0, .int .i64 0, .int .i64 0, .int .i64 0, .int .i64 0, .int .i64 0, .int .i64 0, .int .i64 0, .int .i64 0, .int .i64 0, .int .i64 0, .int .i64 0] 28)).setRow w.heap.size #[.int .i64 0, .int .i64 0, .int .i64 0, .int .i64 100, .int .i64 0, .int .i64 0, .int .i64 0, .int .i64 0, .int .i64 0, .int .i64 0, .int .i64 0, .int .i64 0] := ⟨_, rfl⟩
  rw [← hw1] at N1 K1 ⊢
  obtain ⟨p1, hp1⟩ : ∃ z, z = w.heap.size := ⟨_, rfl⟩
  rw [← hp1] at K1 ⊢
  have B1 := Lib.hid N1
  clear hw1 hp1 N1
  have hw0 : Below w1.heap.size w1 w1.drew := (Below.refl _ _).drew
  refine wp_region_noPanic ?_
  refine wp_region_any (by kernel_rfl) ?_
  refine Inv.wpAny_inv (fun k => k == 2 || k == 3 || k == 4 || k == 5 || k == 6 || k == 7) [6, 7] (fun w' => Below w1.heap.size w1 w') (fun _ w1 w2 => Below w1.heap.size w1 w2) (fun k => ([fun v_ w_ => ∃ b1 b2 gp : Nat, v_ = .agg #[.int .i64 0, .int .i64 0, .int .i64 0, .int .i64 0, .int .i64 0, .int .i64 0, .int .i64 10, .slice (some ⟨b1, 0, none⟩) 2 2, .slice (some ⟨b2, 0, none⟩) 2 2, .slice (some ⟨gp, 0, none⟩) 1 1, .int .i64 3] ∧ OT b1 b2 w_ ∧ PhR w_ gp [po], fun v_ w_ => v_ = .agg #[.int .i64 0, .int .i64 0, .int .i64 0, .int .i64 100, .int .i64 0, .int .i64 0, .int .i64 0, .int .i64 0, .int .i64 0, .int .i64 0, .int .i64 0, .int .i64 0], fun v_ w_ => True, fun v_ w_ => True, fun v_ w_ => True, fun v_ w_ => True, fun v_ w_ => True, fun v_ w_ => True] : List (Value → World → Prop)).getD k (fun _ _ => True)) _ (fun σ => by simp only [Inv.putAll, List.foldl_cons, List.foldl_nil, Act.put, List.setIfInBounds_toArray, List.set_cons_zero, List.set_cons_succ]; rfl) (by kernel_rfl) (by kernel_rfl) ?_ hw0 ?_ ?_ 6 #[true, true, false, false, false, false, false, false] (by kernel_rfl) (by kernel_rfl) ?_
  · intro j k v w1 w2 hjk hv hr
    rcases k with _ | k
    · exact (by obtain ⟨b1, b2, gp, h1, h2, h3⟩ := hv; exact ⟨b1, b2, gp, h1, h2.below hr, h3.below hr⟩)
    rcases k with _ | k
    · exact hv
    rcases k with _ | k
    · exact hv
    rcases k with _ | k
    · exact hv
    rcases k with _ | k
    · exact hv
    rcases k with _ | k
    · exact hv
    rcases k with _ | k
    · exact hv
    rcases k with _ | k
    · exact hv
    · exact hv
  · intro k t hl hd
    rcases k with _ | k
    · exact absurd hl (by decide +kernel)
    rcases k with _ | k
    · exact absurd hl (by decide +kernel)
    rcases k with _ | k
    · exact absurd hl (by decide +kernel)
    rcases k with _ | k
    · exact absurd hl (by decide +kernel)
    rcases k with _ | k
    · exact absurd hl (by decide +kernel)
    rcases k with _ | k
    · exact absurd hl (by decide +kernel)
    rcases k with _ | k
    · exact absurd hl (by decide +kernel)
    rcases k with _ | k
    · exact absurd hl (by decide +kernel)
    · simp at hd
  · show Inv.Steps _ _ _ _ _ _ _ _ [0, 1]
    refine Inv.Steps.go (by decide) (by rfl) (fun σ wx hw hd K hK => ?_) ?_
    · simp only [List.getElem_toArray, List.getElem_cons_zero, List.getElem_cons_succ, Act.put, List.setIfInBounds_toArray, List.set_cons_zero, List.set_cons_succ] at hK ⊢
      go_simp
      go_at_call 15
      refine (one29_any _).mono ?_
      rintro e w1 ⟨b1, b2, gp, rfl, ht, hp, bb⟩
      dsimp only
      exact hK.out _ _ (Buf.then_ hw bb) bb (⟨b1, b2, gp, rfl, ht, hp⟩)
    refine Inv.Steps.go (by decide) (by rfl) (fun σ wx hw hd K hK => ?_) ?_
    · simp only [List.getElem_toArray, List.getElem_cons_zero, List.getElem_cons_succ, Act.put, List.setIfInBounds_toArray, List.set_cons_zero, List.set_cons_succ] at hK ⊢
      refine wp_load_row 28 (.tmp 1) rfl p1 rfl 28 #[.int .i64 0, .int .i64 0, .int .i64 0, .int .i64 100, .int .i64 0, .int .i64 0, .int .i64 0, .int .i64 0, .int .i64 0, .int .i64 0, .int .i64 0, .int .i64 0] (0, 0) _ (Mis.hb hw K1.out) rfl rfl rfl ?_
      simp only [Act.put, List.setIfInBounds_toArray, List.set_cons_zero, List.set_cons_succ]
      exact hK.out _ _ hw (Below.refl _ _) (rfl)
    exact Inv.Steps.nil
  · intro σ wx hw hd
    obtain ⟨b1, b2, gp, e6, ht, hp⟩ : ∃ b1 b2 gp : Nat, (σ 6) = .agg #[.int .i64 0, .int .i64 0, .int .i64 0, .int .i64 0, .int .i64 0, .int .i64 0, .int .i64 10, .slice (some ⟨b1, 0, none⟩) 2 2, .slice (some ⟨b2, 0, none⟩) 2 2, .slice (some ⟨gp, 0, none⟩) 1 1, .int .i64 3] ∧ OT b1 b2 wx ∧ PhR wx gp [po] := hd 0 (some 6) (by rfl) (by rfl)
    obtain e7 : (σ 7) = .agg #[.int .i64 0, .int .i64 0, .int .i64 0, .int .i64 100, .int .i64 0, .int .i64 0, .int .i64 0, .int .i64 0, .int .i64 0, .int .i64 0, .int .i64 0, .int .i64 0] := hd 1 (some 7) (by rfl) (by rfl)
    simp only [e6, e7]
    have MT := Lib.hid (MKT.out wx b1 b2 gp ht hp)
    refine Inv.one (i := 2) (by decide) (by kernel_rfl) (by rfl) (fun K hK => ?_)
    simp only [List.getElem_toArray, List.getElem_cons_zero, List.getElem_cons_succ, Act.put, List.setIfInBounds_toArray, List.set_cons_zero, List.set_cons_succ] at hK ⊢
    go_simp
    go_at_call 10
    refine MT.out.mono ?_
    rintro e w3 ⟨v, rfl, ho, b3⟩
    dsimp only
    obtain ⟨g, cc, rfl, hcc, hgl, hcl⟩ := one_own ho
    refine hK.out _ _ ?_
    clear hK K
    try simp only [Act.put, List.setIfInBounds_toArray, List.set_cons_zero, List.set_cons_succ]
    refine Inv.take (i := 3) (v := .tuple #[.slice (some ⟨g, 0, none⟩) 1 cc, .int .i64 0]) (by decide) rfl (by kernel_rfl) (by kernel_rfl) (by kernel_rfl) (fun _ _ _ h => h) (by rfl) (fun w' => ?_) ?_
    · simp only [List.getElem_toArray, List.getElem_cons_zero, List.getElem_cons_succ]
      go_simp
    try simp only [Act.put, List.setIfInBounds_toArray, List.set_cons_zero, List.set_cons_succ]
    refine Inv.take (i := 4) (v := .slice (some ⟨g, 0, none⟩) 1 cc) (by decide) rfl (by kernel_rfl) (by kernel_rfl) (by kernel_rfl) (fun _ _ _ h => h) (by rfl) (fun w' => ?_) ?_
    · simp only [List.getElem_toArray, List.getElem_cons_zero, List.getElem_cons_succ]
      go_simp
    try simp only [Act.put, List.setIfInBounds_toArray, List.set_cons_zero, List.set_cons_succ]
    refine Inv.take (i := 5) (v := .int .i64 0) (by decide) rfl (by kernel_rfl) (by kernel_rfl) (by kernel_rfl) (fun _ _ _ h => h) (by rfl) (fun w' => ?_) ?_
    · simp only [List.getElem_toArray, List.getElem_cons_zero, List.getElem_cons_succ]
      go_simp
    try simp only [Act.put, List.setIfInBounds_toArray, List.set_cons_zero, List.set_cons_succ]
    refine Inv.take (i := 6) (v := .slice (some ⟨g, 0, none⟩) 1 cc) (by decide) rfl (by kernel_rfl) (by kernel_rfl) (by kernel_rfl) (fun _ _ _ h => h) (by rfl) (fun w' => ?_) ?_
    · simp only [List.getElem_toArray, List.getElem_cons_zero, List.getElem_cons_succ]
      go_simp
    try simp only [Act.put, List.setIfInBounds_toArray, List.set_cons_zero, List.set_cons_succ]
    refine Inv.take (i := 7) (v := .int .i64 0) (by decide) rfl (by kernel_rfl) (by kernel_rfl) (by kernel_rfl) (fun _ _ _ h => h) (by rfl) (fun w' => ?_) ?_
    · simp only [List.getElem_toArray, List.getElem_cons_zero, List.getElem_cons_succ]
      go_simp
    try simp only [Act.put, List.setIfInBounds_toArray, List.set_cons_zero, List.set_cons_succ]
    refine Inv.done (by kernel_rfl) (NoPanic.normal ?_)
    have K3 := Lib.hid (Mis.hb b3 (Mis.hb hw K1.out))
    have B3 := Lib.hid (Buf.then_ B1.out (Buf.then_ hw b3))
    have LC := Lib.hid (show Lst w3 (.slice (some ⟨g, 0, none⟩) 1 cc) [0] from .inr ⟨g, 0, cc, rfl, hcc, hgl, fun j hj => by obtain rfl : j = 0 := (by simpa using hj); simpa using hcl⟩)
    clear hd e6 e7 MT ho b3 hw ht hp hcl K1 B1 hw0
    go_upto_region 3 with fail
    have hw3 : Below w3.heap.size w3 w3.drew := (Below.refl _ _).drew
    refine wp_region_noPanic ?_
    refine wp_region_any (by kernel_rfl) ?_
    refine Inv.wpAny_inv (fun k => k == 27) [11, 12, 13, 14, 15, 16, 17, 18, 19, 20, 21, 22, 23, 24, 25, 26, 27, 28, 29, 30, 31, 32, 33, 34, 35, 36, 37] (fun w' => Below w3.heap.size w3 w') (fun _ w1 w2 => Below w1.heap.size w1 w2) (fun k => ([fun v_ w_ => v_ = .int .i64 0, fun v_ w_ => v_ = .bool true, fun v_ w_ => v_ = .bool true, fun v_ w_ => v_ = .slice (some ⟨g, 0, none⟩) 1 cc, fun v_ w_ => ∃ b : Nat, v_ = .slice (some ⟨b, 0, none⟩) 1 1 ∧ w_.heap[b]? = some (.cells #[.int .i64 0] 3 (0, 0)), fun v_ w_ => v_ = .bool true, fun v_ w_ => v_ = .bool true, fun v_ w_ => v_ = .bool true, fun v_ w_ => ∃ b1 b2 gp : Nat, v_ = .agg #[.int .i64 0, .int .i64 0, .int .i64 0, .int .i64 0, .int .i64 0, .int .i64 0, .int .i64 10, .slice (some ⟨b1, 0, none⟩) 2 2, .slice (some ⟨b2, 0, none⟩) 2 2, .slice (some ⟨gp, 0, none⟩) 1 1, .int .i64 3] ∧ OT b1 b2 w_ ∧ PhR w_ gp [po], fun v_ w_ => v_ = .agg #[.int .i64 0, .int .i64 0, .int .i64 0, .int .i64 100, .int .i64 0, .int .i64 0, .int .i64 0, .int .i64 0, .int .i64 0, .int .i64 0, .int .i64 0, .int .i64 0], fun v_ w_ => v_ = .slice (some ⟨g, 0, none⟩) 1 cc, fun v_ w_ => v_ = .int .i64 0, fun v_ w_ => v_ = .bool true, fun v_ w_ => v_ = .bool true, fun v_ w_ => v_ = .bool true, fun v_ w_ => ∃ b1 b2 gp : Nat, v_ = .agg #[.int .i64 0, .int .i64 0, .int .i64 0, .int .i64 0, .int .i64 0, .int .i64 0, .int .i64 10, .slice (some ⟨b1, 0, none⟩) 2 2, .slice (some ⟨b2, 0, none⟩) 2 2, .slice (some ⟨gp, 0, none⟩) 1 1, .int .i64 3] ∧ OT b1 b2 w_ ∧ PhR w_ gp [po], fun v_ w_ => v_ = .agg #[.int .i64 0, .int .i64 0, .int .i64 0, .int .i64 100, .int .i64 0, .int .i64 0, .int .i64 0, .int .i64 0, .int .i64 0, .int .i64 0, .int .i64 0, .int .i64 0], fun v_ w_ => ∃ b : Nat, v_ = .slice (some ⟨b, 0, none⟩) 2 2 ∧ w_.heap[b]? = some (.cells #[.int .i64 1, .int .i64 0] 3 (0, 0)), fun v_ w_ => v_ = .int .i64 26, fun v_ w_ => v_ = .bool true, fun v_ w_ => v_ = .bool true, fun v_ w_ => v_ = .bool true, fun v_ w_ => ∃ b1 b2 gp : Nat, v_ = .agg #[.int .i64 0, .int .i64 0, .int .i64 0, .int .i64 0, .int .i64 0, .int .i64 0, .int .i64 10, .slice (some ⟨b1, 0, none⟩) 2 2, .slice (some ⟨b2, 0, none⟩) 2 2, .slice (some ⟨gp, 0, none⟩) 1 1, .int .i64 3] ∧ OT b1 b2 w_ ∧ PhR w_ gp [po], fun v_ w_ => v_ = .agg #[.int .i64 0, .int .i64 0, .int .i64 0, .int .i64 100, .int .i64 0, .int .i64 0, .int .i64 0, .int .i64 0, .int .i64 0, .int .i64 0, .int .i64 0, .int .i64 0], fun v_ w_ => v_ = .int .i64 26, fun v_ w_ => v_ = .bool true, fun v_ w_ => v_ = .bool true, fun v_ w_ => True] : List (Value → World → Prop)).getD k (fun _ _ => True)) _ (fun σ => by simp only [Inv.putAll, List.foldl_cons, List.foldl_nil, Act.put, List.setIfInBounds_toArray, List.set_cons_zero, List.set_cons_succ]; rfl) (by kernel_rfl) (by kernel_rfl) ?_ hw3 ?_ ?_ 1 #[true, true, true, true, true, true, true, true, true, true, true, true, true, true, true, true, true, true, true, true, true, true, true, true, true, true, true, false] (by kernel_rfl) (by kernel_rfl) ?_
    · intro j k v w1 w2 hjk hv hr
      rcases k with _ | k
      · exact hv
      rcases k with _ | k
      · exact hv
      rcases k with _ | k
      · exact hv
      rcases k with _ | k
      · exact hv
      rcases k with _ | k
      · exact (by obtain ⟨b, h1, h2⟩ := hv; exact ⟨b, h1, Mis.hb hr h2⟩)
      rcases k with _ | k
      · exact hv
      rcases k with _ | k
      · exact hv
      rcases k with _ | k
      · exact hv
      rcases k with _ | k
      · exact (by obtain ⟨b1, b2, gp, h1, h2, h3⟩ := hv; exact ⟨b1, b2, gp, h1, h2.below hr, h3.below hr⟩)
      rcases k with _ | k
      · exact hv
      rcases k with _ | k
      · exact hv
      rcases k with _ | k
      · exact hv
      rcases k with _ | k
      · exact hv
      rcases k with _ | k
      · exact hv
      rcases k with _ | k
      · exact hv
      rcases k with _ | k
      · exact (by obtain ⟨b1, b2, gp, h1, h2, h3⟩ := hv; exact ⟨b1, b2, gp, h1, h2.below hr, h3.below hr⟩)
      rcases k with _ | k
      · exact hv
      rcases k with _ | k
      · exact (by obtain ⟨b, h1, h2⟩ := hv; exact ⟨b, h1, Mis.hb hr h2⟩)
      rcases k with _ | k
      · exact hv
      rcases k with _ | k
      · exact hv
      rcases k with _ | k
      · exact hv
      rcases k with _ | k
      · exact hv
      rcases k with _ | k
      · exact (by obtain ⟨b1, b2, gp, h1, h2, h3⟩ := hv; exact ⟨b1, b2, gp, h1, h2.below hr, h3.below hr⟩)
      rcases k with _ | k
      · exact hv
      rcases k with _ | k
      · exact hv
      rcases k with _ | k
      · exact hv
      rcases k with _ | k
      · exact hv
      rcases k with _ | k
      · exact hv
      · exact hv
    · intro k t hl hd
      rcases k with _ | k
      · exact absurd hl (by decide +kernel)
      rcases k with _ | k
      · exact absurd hl (by decide +kernel)
      rcases k with _ | k
      · exact absurd hl (by decide +kernel)
      rcases k with _ | k
      · exact absurd hl (by decide +kernel)
      rcases k with _ | k
      · exact absurd hl (by decide +kernel)
      rcases k with _ | k
      · exact absurd hl (by decide +kernel)
      rcases k with _ | k
      · exact absurd hl (by decide +kernel)
      rcases k with _ | k
      · exact absurd hl (by decide +kernel)
      rcases k with _ | k
      · exact absurd hl (by decide +kernel)
      rcases k with _ | k
      · exact absurd hl (by decide +kernel)
      rcases k with _ | k
      · exact absurd hl (by decide +kernel)
      rcases k with _ | k
      · exact absurd hl (by decide +kernel)
      rcases k with _ | k
      · exact absurd hl (by decide +kernel)
      rcases k with _ | k
      · exact absurd hl (by decide +kernel)
      rcases k with _ | k
      · exact absurd hl (by decide +kernel)
      rcases k with _ | k
      · exact absurd hl (by decide +kernel)
      rcases k with _ | k
      · exact absurd hl (by decide +kernel)
      rcases k with _ | k
      · exact absurd hl (by decide +kernel)
      rcases k with _ | k
      · exact absurd hl (by decide +kernel)
      rcases k with _ | k
      · exact absurd hl (by decide +kernel)
      rcases k with _ | k
      · exact absurd hl (by decide +kernel)
      rcases k with _ | k
      · exact absurd hl (by decide +kernel)
      rcases k with _ | k
      · exact absurd hl (by decide +kernel)
      rcases k with _ | k
      · exact absurd hl (by decide +kernel)
      rcases k with _ | k
      · exact absurd hl (by decide +kernel)
      rcases k with _ | k
      · exact absurd hl (by decide +kernel)
      rcases k with _ | k
      · exact absurd hl (by decide +kernel)
      rcases k with _ | k
      · exact absurd hl (by decide +kernel)
      · simp at hd
    · show Inv.Steps _ _ _ _ _ _ _ _ [0, 1, 2, 3, 4, 5, 6, 7, 8, 9, 10, 11, 12, 13, 14, 15, 16, 17, 18, 19, 20, 21, 22, 23, 24, 25, 26]
      refine Inv.Steps.go (by decide) (by rfl) (fun σ wx hw hd K hK => ?_) ?_
      · simp only [List.getElem_toArray, List.getElem_cons_zero, List.getElem_cons_succ, Act.put, List.setIfInBounds_toArray, List.set_cons_zero, List.set_cons_succ] at hK ⊢
        go_simp
        exact hK.out _ _ hw (Below.refl _ _) (rfl)
      refine Inv.Steps.go (by decide) (by rfl) (fun σ wx hw hd K hK => ?_) ?_
      · obtain e11 : (σ 11) = .int .i64 0 := hd 0 (some 11) (by kernel_rfl) (by rfl)
        simp only [List.getElem_toArray, List.getElem_cons_zero, List.getElem_cons_succ, Act.put, List.setIfInBounds_toArray, List.set_cons_zero, List.set_cons_succ, e11] at hK ⊢
        go_simp
        exact hK.out _ _ hw (Below.refl _ _) (rfl)
      refine Inv.Steps.go (by decide) (by rfl) (fun σ wx hw hd K hK => ?_) ?_
      · obtain e12 : (σ 12) = .bool true := hd 1 (some 12) (by kernel_rfl) (by rfl)
        simp only [List.getElem_toArray, List.getElem_cons_zero, List.getElem_cons_succ, Act.put, List.setIfInBounds_toArray, List.set_cons_zero, List.set_cons_succ, e12] at hK ⊢
        go_simp
        exact hK.out _ _ hw (Below.refl _ _) (rfl)
      refine Inv.Steps.on (by decide) 2 13 true (by rfl) (by rfl) (fun σ wx hw hd => ?_) ?_
      · obtain e13 : (σ 13) = .bool true := hd 2 (some 13) (by kernel_rfl) (by rfl)
        refine ⟨by simp [e13], fun K hK => ?_⟩
        simp only [List.getElem_toArray, List.getElem_cons_zero, List.getElem_cons_succ, Act.put, List.setIfInBounds_toArray, List.set_cons_zero, List.set_cons_succ, e13] at hK ⊢
        go_simp
        exact hK.out _ _ hw (Below.refl _ _) (rfl)
      refine Inv.Steps.on (by decide) 2 13 true (by rfl) (by rfl) (fun σ wx hw hd => ?_) ?_
      · obtain e13 : (σ 13) = .bool true := hd 2 (some 13) (by kernel_rfl) (by rfl)
        refine ⟨by simp [e13], fun K hK => ?_⟩
        simp only [List.getElem_toArray, List.getElem_cons_zero, List.getElem_cons_succ, Act.put, List.setIfInBounds_toArray, List.set_cons_zero, List.set_cons_succ, e13] at hK ⊢
        go_simp
        exact hK.out _ _ (Buf.then_ hw (Mis.new_block _)) (Mis.new_block _) (⟨wx.heap.size, rfl, heap_alloc_new _ _⟩)
      refine Inv.Steps.on (by decide) 2 13 true (by rfl) (by rfl) (fun σ wx hw hd => ?_) ?_
      · obtain e13 : (σ 13) = .bool true := hd 2 (some 13) (by kernel_rfl) (by rfl)
        obtain e14 : (σ 14) = .slice (some ⟨g, 0, none⟩) 1 cc := hd 3 (some 14) (by kernel_rfl) (by rfl)
        obtain ⟨b15, e15, k15⟩ : ∃ b : Nat, (σ 15) = .slice (some ⟨b, 0, none⟩) 1 1 ∧ wx.heap[b]? = some (.cells #[.int .i64 0] 3 (0, 0)) := hd 4 (some 15) (by kernel_rfl) (by rfl)
        refine ⟨by simp [e13], fun K hK => ?_⟩
        simp only [List.getElem_toArray, List.getElem_cons_zero, List.getElem_cons_succ, Act.put, List.setIfInBounds_toArray, List.set_cons_zero, List.set_cons_succ, e13, e14, e15] at hK ⊢
        go_simp
        go_at_call 16
        refine (ints_same (LC.out.below hw) (lst_one k15) (by decide) (by decide)).mono ?_
        rintro e w1 ⟨rfl, bb⟩
        dsimp only
        exact hK.out _ _ (Buf.then_ hw bb) bb (rfl)
      refine Inv.Steps.go (by decide) (by rfl) (fun σ wx hw hd K hK => ?_) ?_
      · obtain e13 : (σ 13) = .bool true := hd 2 (some 13) (by kernel_rfl) (by rfl)
        obtain e16 : (σ 16) = .bool true := hd 5 (some 16) (by kernel_rfl) (by rfl)
        simp only [List.getElem_toArray, List.getElem_cons_zero, List.getElem_cons_succ, Act.put, List.setIfInBounds_toArray, List.set_cons_zero, List.set_cons_succ, e13, e16] at hK ⊢
        go_simp
        exact hK.out _ _ hw (Below.refl _ _) (rfl)
      refine Inv.Steps.go (by decide) (by rfl) (fun σ wx hw hd K hK => ?_) ?_
      · obtain e17 : (σ 17) = .bool true := hd 6 (some 17) (by kernel_rfl) (by rfl)
        simp only [List.getElem_toArray, List.getElem_cons_zero, List.getElem_cons_succ, Act.put, List.setIfInBounds_toArray, List.set_cons_zero, List.set_cons_succ, e17] at hK ⊢
        go_simp
        exact hK.out _ _ hw (Below.refl _ _) (rfl)
      refine Inv.Steps.on (by decide) 7 18 true (by rfl) (by rfl) (fun σ wx hw hd => ?_) ?_
      · obtain e18 : (σ 18) = .bool true := hd 7 (some 18) (by kernel_rfl) (by rfl)
        refine ⟨by simp [e18], fun K hK => ?_⟩
        simp only [List.getElem_toArray, List.getElem_cons_zero, List.getElem_cons_succ, Act.put, List.setIfInBounds_toArray, List.set_cons_zero, List.set_cons_succ, e18] at hK ⊢
        go_simp
        go_at_call 15
        refine (one29_any _).mono ?_
        rintro e w1 ⟨b1, b2, gp, rfl, ht, hp, bb⟩
        dsimp only
        exact hK.out _ _ (Buf.then_ hw bb) bb (⟨b1, b2, gp, rfl, ht, hp⟩)
      refine Inv.Steps.on (by decide) 7 18 true (by rfl) (by rfl) (fun σ wx hw hd => ?_) ?_
      · obtain e18 : (σ 18) = .bool true := hd 7 (some 18) (by kernel_rfl) (by rfl)
        refine ⟨by simp [e18], fun K hK => ?_⟩
        simp only [List.getElem_toArray, List.getElem_cons_zero, List.getElem_cons_succ, Act.put, List.setIfInBounds_toArray, List.set_cons_zero, List.set_cons_succ, e18] at hK ⊢
        refine wp_load_row 28 (.tmp 1) rfl p1 rfl 28 #[.int .i64 0, .int .i64 0, .int .i64 0, .int .i64 100, .int .i64 0, .int .i64 0, .int .i64 0, .int .i64 0, .int .i64 0, .int .i64 0, .int .i64 0, .int .i64 0] (0, 0) _ (Mis.hb hw K3.out) rfl rfl rfl ?_
        simp only [Act.put, List.setIfInBounds_toArray, List.set_cons_zero, List.set_cons_succ]
        exact hK.out _ _ hw (Below.refl _ _) (rfl)
      refine Inv.Steps.on (by decide) 7 18 true (by rfl) (by rfl) (fun σ wx hw hd => ?_) ?_
      · obtain e18 : (σ 18) = .bool true := hd 7 (some 18) (by kernel_rfl) (by rfl)
        refine ⟨by simp [e18], fun K hK => ?_⟩
        simp only [List.getElem_toArray, List.getElem_cons_zero, List.getElem_cons_succ, Act.put, List.setIfInBounds_toArray, List.set_cons_zero, List.set_cons_succ, e18] at hK ⊢
        go_simp
        exact hK.out _ _ hw (Below.refl _ _) (rfl)
      refine Inv.Steps.on (by decide) 7 18 true (by rfl) (by rfl) (fun σ wx hw hd => ?_) ?_
      · obtain e18 : (σ 18) = .bool true := hd 7 (some 18) (by kernel_rfl) (by rfl)
        obtain ⟨b1, b2, gp, e19, ht, hp⟩ : ∃ b1 b2 gp : Nat, (σ 19) = .agg #[.int .i64 0, .int .i64 0, .int .i64 0, .int .i64 0, .int .i64 0, .int .i64 0, .int .i64 10, .slice (some ⟨b1, 0, none⟩) 2 2, .slice (some ⟨b2, 0, none⟩) 2 2, .slice (some ⟨gp, 0, none⟩) 1 1, .int .i64 3] ∧ OT b1 b2 wx ∧ PhR wx gp [po] := hd 8 (some 19) (by kernel_rfl) (by rfl)
        obtain e20 : (σ 20) = .agg #[.int .i64 0, .int .i64 0, .int .i64 0, .int .i64 100, .int .i64 0, .int .i64 0, .int .i64 0, .int .i64 0, .int .i64 0, .int .i64 0, .int .i64 0, .int .i64 0] := hd 9 (some 20) (by kernel_rfl) (by rfl)
        obtain e21 : (σ 21) = .slice (some ⟨g, 0, none⟩) 1 cc := hd 10 (some 21) (by kernel_rfl) (by rfl)
        refine ⟨by simp [e18], fun K hK => ?_⟩
        simp only [List.getElem_toArray, List.getElem_cons_zero, List.getElem_cons_succ, Act.put, List.setIfInBounds_toArray, List.set_cons_zero, List.set_cons_succ, e18, e19, e20, e21] at hK ⊢
        have CX := C0.out wx b1 b2 gp ht hp (LC.out.below hw)
        go_simp
        go_at_call 11
        refine (CX).mono ?_
        rintro e w1 ⟨rfl, bb⟩
        dsimp only
        exact hK.out _ _ (Buf.then_ hw bb) bb (rfl)
      refine Inv.Steps.on (by decide) 7 18 true (by rfl) (by rfl) (fun σ wx hw hd => ?_) ?_
      · obtain e18 : (σ 18) = .bool true := hd 7 (some 18) (by kernel_rfl) (by rfl)
        obtain e22 : (σ 22) = .int .i64 0 := hd 11 (some 22) (by kernel_rfl) (by rfl)
        refine ⟨by simp [e18], fun K hK => ?_⟩
        simp only [List.getElem_toArray, List.getElem_cons_zero, List.getElem_cons_succ, Act.put, List.setIfInBounds_toArray, List.set_cons_zero, List.set_cons_succ, e18, e22] at hK ⊢
        go_simp
        exact hK.out _ _ hw (Below.refl _ _) (rfl)
      refine Inv.Steps.go (by decide) (by rfl) (fun σ wx hw hd K hK => ?_) ?_
      · obtain e18 : (σ 18) = .bool true := hd 7 (some 18) (by kernel_rfl) (by rfl)
        obtain e23 : (σ 23) = .bool true := hd 12 (some 23) (by kernel_rfl) (by rfl)
        simp only [List.getElem_toArray, List.getElem_cons_zero, List.getElem_cons_succ, Act.put, List.setIfInBounds_toArray, List.set_cons_zero, List.set_cons_succ, e18, e23] at hK ⊢
        go_simp
        exact hK.out _ _ hw (Below.refl _ _) (rfl)
      refine Inv.Steps.go (by decide) (by rfl) (fun σ wx hw hd K hK => ?_) ?_
      · obtain e24 : (σ 24) = .bool true := hd 13 (some 24) (by kernel_rfl) (by rfl)
        simp only [List.getElem_toArray, List.getElem_cons_zero, List.getElem_cons_succ, Act.put, List.setIfInBounds_toArray, List.set_cons_zero, List.set_cons_succ, e24] at hK ⊢
        go_simp
        exact hK.out _ _ hw (Below.refl _ _) (rfl)
      refine Inv.Steps.on (by decide) 14 25 true (by rfl) (by rfl) (fun σ wx hw hd => ?_) ?_
      · obtain e25 : (σ 25) = .bool true := hd 14 (some 25) (by kernel_rfl) (by rfl)
        refine ⟨by simp [e25], fun K hK => ?_⟩
        simp only [List.getElem_toArray, List.getElem_cons_zero, List.getElem_cons_succ, Act.put, List.setIfInBounds_toArray, List.set_cons_zero, List.set_cons_succ, e25] at hK ⊢
        go_simp
        go_at_call 15
        refine (one29_any _).mono ?_
        rintro e w1 ⟨b1, b2, gp, rfl, ht, hp, bb⟩
        dsimp only
        exact hK.out _ _ (Buf.then_ hw bb) bb (⟨b1, b2, gp, rfl, ht, hp⟩)
      refine Inv.Steps.on (by decide) 14 25 true (by rfl) (by rfl) (fun σ wx hw hd => ?_) ?_
      · obtain e25 : (σ 25) = .bool true := hd 14 (some 25) (by kernel_rfl) (by rfl)
        refine ⟨by simp [e25], fun K hK => ?_⟩
        simp only [List.getElem_toArray, List.getElem_cons_zero, List.getElem_cons_succ, Act.put, List.setIfInBounds_toArray, List.set_cons_zero, List.set_cons_succ, e25] at hK ⊢
        refine wp_load_row 28 (.tmp 1) rfl p1 rfl 28 #[.int .i64 0, .int .i64 0, .int .i64 0, .int .i64 100, .int .i64 0, .int .i64 0, .int .i64 0, .int .i64 0, .int .i64 0, .int .i64 0, .int .i64 0, .int .i64 0] (0, 0) _ (Mis.hb hw K3.out) rfl rfl rfl ?_
        simp only [Act.put, List.setIfInBounds_toArray, List.set_cons_zero, List.set_cons_succ]
        exact hK.out _ _ hw (Below.refl _ _) (rfl)
      refine Inv.Steps.on (by decide) 14 25 true (by rfl) (by rfl) (fun σ wx hw hd => ?_) ?_
      · obtain e25 : (σ 25) = .bool true := hd 14 (some 25) (by kernel_rfl) (by rfl)
        refine ⟨by simp [e25], fun K hK => ?_⟩
        simp only [List.getElem_toArray, List.getElem_cons_zero, List.getElem_cons_succ, Act.put, List.setIfInBounds_toArray, List.set_cons_zero, List.set_cons_succ, e25] at hK ⊢
        go_simp
        exact hK.out _ _ (Buf.then_ hw (Mis.new_block _)) (Mis.new_block _) (⟨wx.heap.size, rfl, heap_alloc_new _ _⟩)
      refine Inv.Steps.on (by decide) 14 25 true (by rfl) (by rfl) (fun σ wx hw hd => ?_) ?_
      · obtain e25 : (σ 25) = .bool true := hd 14 (some 25) (by kernel_rfl) (by rfl)
        obtain ⟨b1, b2, gp, e26, ht, hp⟩ : ∃ b1 b2 gp : Nat, (σ 26) = .agg #[.int .i64 0, .int .i64 0, .int .i64 0, .int .i64 0, .int .i64 0, .int .i64 0, .int .i64 10, .slice (some ⟨b1, 0, none⟩) 2 2, .slice (some ⟨b2, 0, none⟩) 2 2, .slice (some ⟨gp, 0, none⟩) 1 1, .int .i64 3] ∧ OT b1 b2 wx ∧ PhR wx gp [po] := hd 15 (some 26) (by kernel_rfl) (by rfl)
        obtain e27 : (σ 27) = .agg #[.int .i64 0, .int .i64 0, .int .i64 0, .int .i64 100, .int .i64 0, .int .i64 0, .int .i64 0, .int .i64 0, .int .i64 0, .int .i64 0, .int .i64 0, .int .i64 0] := hd 16 (some 27) (by kernel_rfl) (by rfl)
        obtain ⟨b28, e28, k28⟩ : ∃ b : Nat, (σ 28) = .slice (some ⟨b, 0, none⟩) 2 2 ∧ wx.heap[b]? = some (.cells #[.int .i64 1, .int .i64 0] 3 (0, 0)) := hd 17 (some 28) (by kernel_rfl) (by rfl)
        refine ⟨by simp [e25], fun K hK => ?_⟩
        simp only [List.getElem_toArray, List.getElem_cons_zero, List.getElem_cons_succ, Act.put, List.setIfInBounds_toArray, List.set_cons_zero, List.set_cons_succ, e25, e26, e27, e28] at hK ⊢
        have CX := C1.out wx b1 b2 gp ht hp (lst_two k28)
        go_simp
        go_at_call 11
        refine (CX).mono ?_
        rintro e w1 ⟨rfl, bb⟩
        dsimp only
        exact hK.out _ _ (Buf.then_ hw bb) bb (rfl)
      refine Inv.Steps.on (by decide) 14 25 true (by rfl) (by rfl) (fun σ wx hw hd => ?_) ?_
      · obtain e25 : (σ 25) = .bool true := hd 14 (some 25) (by kernel_rfl) (by rfl)
        obtain e29 : (σ 29) = .int .i64 26 := hd 18 (some 29) (by kernel_rfl) (by rfl)
        refine ⟨by simp [e25], fun K hK => ?_⟩
        simp only [List.getElem_toArray, List.getElem_cons_zero, List.getElem_cons_succ, Act.put, List.setIfInBounds_toArray, List.set_cons_zero, List.set_cons_succ, e25, e29] at hK ⊢
        go_simp
        exact hK.out _ _ hw (Below.refl _ _) (rfl)
      refine Inv.Steps.go (by decide) (by rfl) (fun σ wx hw hd K hK => ?_) ?_
      · obtain e25 : (σ 25) = .bool true := hd 14 (some 25) (by kernel_rfl) (by rfl)
        obtain e30 : (σ 30) = .bool true := hd 19 (some 30) (by kernel_rfl) (by rfl)
        simp only [List.getElem_toArray, List.getElem_cons_zero, List.getElem_cons_succ, Act.put, List.setIfInBounds_toArray, List.set_cons_zero, List.set_cons_succ, e25, e30] at hK ⊢
        go_simp
        exact hK.out _ _ hw (Below.refl _ _) (rfl)
      refine Inv.Steps.go (by decide) (by rfl) (fun σ wx hw hd K hK => ?_) ?_
      · obtain e31 : (σ 31) = .bool true := hd 20 (some 31) (by kernel_rfl) (by rfl)
        simp only [List.getElem_toArray, List.getElem_cons_zero, List.getElem_cons_succ, Act.put, List.setIfInBounds_toArray, List.set_cons_zero, List.set_cons_succ, e31] at hK ⊢
        go_simp
        exact hK.out _ _ hw (Below.refl _ _) (rfl)
      refine Inv.Steps.on (by decide) 21 32 true (by rfl) (by rfl) (fun σ wx hw hd => ?_) ?_
      · obtain e32 : (σ 32) = .bool true := hd 21 (some 32) (by kernel_rfl) (by rfl)
        refine ⟨by simp [e32], fun K hK => ?_⟩
        simp only [List.getElem_toArray, List.getElem_cons_zero, List.getElem_cons_succ, Act.put, List.setIfInBounds_toArray, List.set_cons_zero, List.set_cons_succ, e32] at hK ⊢
        go_simp
        go_at_call 15
        refine (one29_any _).mono ?_
        rintro e w1 ⟨b1, b2, gp, rfl, ht, hp, bb⟩
        dsimp only
        exact hK.out _ _ (Buf.then_ hw bb) bb (⟨b1, b2, gp, rfl, ht, hp⟩)
      refine Inv.Steps.on (by decide) 21 32 true (by rfl) (by rfl) (fun σ wx hw hd => ?_) ?_
      · obtain e32 : (σ 32) = .bool true := hd 21 (some 32) (by kernel_rfl) (by rfl)
        refine ⟨by simp [e32], fun K hK => ?_⟩
        simp only [List.getElem_toArray, List.getElem_cons_zero, List.getElem_cons_succ, Act.put, List.setIfInBounds_toArray, List.set_cons_zero, List.set_cons_succ, e32] at hK ⊢
        refine wp_load_row 28 (.tmp 1) rfl p1 rfl 28 #[.int .i64 0, .int .i64 0, .int .i64 0, .int .i64 100, .int .i64 0, .int .i64 0, .int .i64 0, .int .i64 0, .int .i64 0, .int .i64 0, .int .i64 0, .int .i64 0] (0, 0) _ (Mis.hb hw K3.out) rfl rfl rfl ?_
        simp only [Act.put, List.setIfInBounds_toArray, List.set_cons_zero, List.set_cons_succ]
        exact hK.out _ _ hw (Below.refl _ _) (rfl)
      refine Inv.Steps.on (by decide) 21 32 true (by rfl) (by rfl) (fun σ wx hw hd => ?_) ?_
      · obtain e32 : (σ 32) = .bool true := hd 21 (some 32) (by kernel_rfl) (by rfl)
        obtain ⟨b1, b2, gp, e33, ht, hp⟩ : ∃ b1 b2 gp : Nat, (σ 33) = .agg #[.int .i64 0, .int .i64 0, .int .i64 0, .int .i64 0, .int .i64 0, .int .i64 0, .int .i64 10, .slice (some ⟨b1, 0, none⟩) 2 2, .slice (some ⟨b2, 0, none⟩) 2 2, .slice (some ⟨gp, 0, none⟩) 1 1, .int .i64 3] ∧ OT b1 b2 wx ∧ PhR wx gp [po] := hd 22 (some 33) (by kernel_rfl) (by rfl)
        obtain e34 : (σ 34) = .agg #[.int .i64 0, .int .i64 0, .int .i64 0, .int .i64 100, .int .i64 0, .int .i64 0, .int .i64 0, .int .i64 0, .int .i64 0, .int .i64 0, .int .i64 0, .int .i64 0] := hd 23 (some 34) (by kernel_rfl) (by rfl)
        refine ⟨by simp [e32], fun K hK => ?_⟩
        simp only [List.getElem_toArray, List.getElem_cons_zero, List.getElem_cons_succ, Act.put, List.setIfInBounds_toArray, List.set_cons_zero, List.set_cons_succ, e32, e33, e34] at hK ⊢
        have CX := C2.out wx b1 b2 gp ht hp (.inl ⟨rfl, none, 0, rfl⟩)
        go_simp
        go_at_call 11
        refine (CX).mono ?_
        rintro e w1 ⟨rfl, bb⟩
        dsimp only
        exact hK.out _ _ (Buf.then_ hw bb) bb (rfl)
      refine Inv.Steps.on (by decide) 21 32 true (by rfl) (by rfl) (fun σ wx hw hd => ?_) ?_
      · obtain e32 : (σ 32) = .bool true := hd 21 (some 32) (by kernel_rfl) (by rfl)
        obtain e35 : (σ 35) = .int .i64 26 := hd 24 (some 35) (by kernel_rfl) (by rfl)
        refine ⟨by simp [e32], fun K hK => ?_⟩
        simp only [List.getElem_toArray, List.getElem_cons_zero, List.getElem_cons_succ, Act.put, List.setIfInBounds_toArray, List.set_cons_zero, List.set_cons_succ, e32, e35] at hK ⊢
        go_simp
        exact hK.out _ _ hw (Below.refl _ _) (rfl)
      refine Inv.Steps.go (by decide) (by rfl) (fun σ wx hw hd K hK => ?_) ?_
      · obtain e32 : (σ 32) = .bool true := hd 21 (some 32) (by kernel_rfl) (by rfl)
        obtain e36 : (σ 36) = .bool true := hd 25 (some 36) (by kernel_rfl) (by rfl)
        simp only [List.getElem_toArray, List.getElem_cons_zero, List.getElem_cons_succ, Act.put, List.setIfInBounds_toArray, List.set_cons_zero, List.set_cons_succ, e32, e36] at hK ⊢
        go_simp
        exact hK.out _ _ hw (Below.refl _ _) (rfl)
      exact Inv.Steps.nil
    · intro σ wx hw hd
      obtain e37 : (σ 37) = .bool true := hd 26 (some 37) (by rfl) (by rfl)
      simp only [e37]
      refine Inv.take (i := 27) (v := .bool true) (by decide) rfl (by kernel_rfl) (by kernel_rfl) (by kernel_rfl) (fun _ _ _ h => h) (by rfl) (fun w' => ?_) ?_
      · simp only [List.getElem_toArray, List.getElem_cons_zero, List.getElem_cons_succ]
        go_simp
      try simp only [Act.put, List.setIfInBounds_toArray, List.set_cons_zero, List.set_cons_succ]
      refine Inv.done (by kernel_rfl) (NoPanic.normal ?_)
      clear hd
      go_wp2_with fail
      go_ret
      exact ⟨rfl, Buf.then_ B3.out hw⟩
end Prf
end Loc
end Go.Proofs.Ytldgihlhioeipaa
