/- Events that the reader makes. -/
import Derived.Test.YticjmblajloefaaRuleG
import Derived.Test.YticjmblajloefaaRuleH
import Derived.Test.YticjmblajloefaaMid
set_option linter.unusedVariables false
set_option linter.unusedSimpArgs false
namespace Go.Proofs.Yticjmblajloefaa
open Go.RowKit
namespace Ru
/-- The cells of a pick. -/
def Pk (l : List Value) : Prop := ∃ (s0 s1 s2 s3 : ByteArray) (n1 n2 n3 n4 n5 : Int), l = [.string s0, .string s1, .string s2, .string s3, .int .i64 n1, .int .i64 n2, .int .i64 n3, .int .i64 n4, .int .i64 n5]
/-- What Event returns. -/
def Evented (e : Ending) : Prop := ∃ (s0 s1 s2 s3 : ByteArray) (n1 n2 n3 n4 n5 : Int) (pa : Option Addr) (pn pc : Nat) (X Y Z T Mi Lo A1 A2 A3 A4 A5 A6 L H C : Int), e = .returned (.agg #[.string s0, .string s1, .string s2, .string s3, .int .i64 n1, .int .i64 n2, .int .i64 n3, .int .i64 n4, .int .i64 n5, .slice pa pn pc, .int .i64 X, .int .i64 Y, .int .i64 Z, .int .i64 T, .int .i64 Mi, .int .i64 Lo, .int .i64 A1, .int .i64 A2, .int .i64 A3, .int .i64 A4, .int .i64 A5, .int .i64 A6, .int .i64 L, .int .i64 H, .int .i64 C]) ∧ Geo.PV X Y Z ∧ 0 ≤ T ∧ T ≤ 2000 ∧ L ≤ H
set_option maxRecDepth 100000 in
set_option maxHeartbeats 8000000 in
theorem event_any {W0 w : World} {g : Nat} {a : Option Addr} {len cap : Nat} {zs : List Int} (h : Src.Di W0 w g a len cap zs) (n : Int) :
    Calls Try.prog 8 #[.pointer (some ⟨g, 0, none⟩), .int .i64 n] w fun e w' => Evented e ∧ Src.Left W0 w w' g a len cap zs := by
  have H := Lib.hid h
  have hne : Hid (w.heap.size ≠ g) := Lib.hid (by have := h.lt; omega)
  have hlt0 := h.lt
  obtain ⟨b5, hb5⟩ : ∃ b5, b5 = w.heap.size + 1 := ⟨_, rfl⟩
  have nb5 : b5 ≠ g := by omega
  have L0 := Lib.hid (((Src.Left.refl h).alloc (.cells #[.string ⟨#[]⟩, .string ⟨#[]⟩, .string ⟨#[]⟩, .string ⟨#[]⟩, .int .i64 0, .int .i64 0, .int .i64 0, .int .i64 0, .int .i64 0, .slice none 0 0, .int .i64 0, .int .i64 0, .int .i64 0, .int .i64 0, .int .i64 0, .int .i64 0, .int .i64 0, .int .i64 0, .int .i64 0, .int .i64 0, .int .i64 0, .int .i64 0, .int .i64 0, .int .i64 0, .int .i64 0] 45)).alloc (.cells #[.string ⟨#[]⟩, .string ⟨#[]⟩, .string ⟨#[]⟩, .string ⟨#[]⟩, .int .i64 0, .int .i64 0, .int .i64 0, .int .i64 0, .int .i64 0, .slice none 0 0, .int .i64 0, .int .i64 0, .int .i64 0, .int .i64 0, .int .i64 0, .int .i64 0, .int .i64 0, .int .i64 0, .int .i64 0, .int .i64 0, .int .i64 0, .int .i64 0, .int .i64 0, .int .i64 0, .int .i64 0] 45))
  have P0 : Hid (((w.alloc (.cells #[.string ⟨#[]⟩, .string ⟨#[]⟩, .string ⟨#[]⟩, .string ⟨#[]⟩, .int .i64 0, .int .i64 0, .int .i64 0, .int .i64 0, .int .i64 0, .slice none 0 0, .int .i64 0, .int .i64 0, .int .i64 0, .int .i64 0, .int .i64 0, .int .i64 0, .int .i64 0, .int .i64 0, .int .i64 0, .int .i64 0, .int .i64 0, .int .i64 0, .int .i64 0, .int .i64 0, .int .i64 0] 45)).alloc (.cells #[.string ⟨#[]⟩, .string ⟨#[]⟩, .string ⟨#[]⟩, .string ⟨#[]⟩, .int .i64 0, .int .i64 0, .int .i64 0, .int .i64 0, .int .i64 0, .slice none 0 0, .int .i64 0, .int .i64 0, .int .i64 0, .int .i64 0, .int .i64 0, .int .i64 0, .int .i64 0, .int .i64 0, .int .i64 0, .int .i64 0, .int .i64 0, .int .i64 0, .int .i64 0, .int .i64 0, .int .i64 0] 45)).heap[w.heap.size]? = some (.cells #[.string ⟨#[]⟩, .string ⟨#[]⟩, .string ⟨#[]⟩, .string ⟨#[]⟩, .int .i64 0, .int .i64 0, .int .i64 0, .int .i64 0, .int .i64 0, .slice none 0 0, .int .i64 0, .int .i64 0, .int .i64 0, .int .i64 0, .int .i64 0, .int .i64 0, .int .i64 0, .int .i64 0, .int .i64 0, .int .i64 0, .int .i64 0, .int .i64 0, .int .i64 0, .int .i64 0, .int .i64 0] 45 (0, 0))) := Lib.hid (Geo.blk_alloc (Geo.blk_new w _) _)
  have P5 : Hid (((w.alloc (.cells #[.string ⟨#[]⟩, .string ⟨#[]⟩, .string ⟨#[]⟩, .string ⟨#[]⟩, .int .i64 0, .int .i64 0, .int .i64 0, .int .i64 0, .int .i64 0, .slice none 0 0, .int .i64 0, .int .i64 0, .int .i64 0, .int .i64 0, .int .i64 0, .int .i64 0, .int .i64 0, .int .i64 0, .int .i64 0, .int .i64 0, .int .i64 0, .int .i64 0, .int .i64 0, .int .i64 0, .int .i64 0] 45)).alloc (.cells #[.string ⟨#[]⟩, .string ⟨#[]⟩, .string ⟨#[]⟩, .string ⟨#[]⟩, .int .i64 0, .int .i64 0, .int .i64 0, .int .i64 0, .int .i64 0, .slice none 0 0, .int .i64 0, .int .i64 0, .int .i64 0, .int .i64 0, .int .i64 0, .int .i64 0, .int .i64 0, .int .i64 0, .int .i64 0, .int .i64 0, .int .i64 0, .int .i64 0, .int .i64 0, .int .i64 0, .int .i64 0] 45)).heap[b5]? = some (.cells #[.string ⟨#[]⟩, .string ⟨#[]⟩, .string ⟨#[]⟩, .string ⟨#[]⟩, .int .i64 0, .int .i64 0, .int .i64 0, .int .i64 0, .int .i64 0, .slice none 0 0, .int .i64 0, .int .i64 0, .int .i64 0, .int .i64 0, .int .i64 0, .int .i64 0, .int .i64 0, .int .i64 0, .int .i64 0, .int .i64 0, .int .i64 0, .int .i64 0, .int .i64 0, .int .i64 0, .int .i64 0] 45 (0, 0))) := Lib.hid (by rw [hb5]; exact Geo.blk_new1 _ _ _)
  clear h
  obtain ⟨i0, hi, hz0, hz1, hz2⟩ : ∃ i, Try.prog.info? 32 = some i ∧ i.zero = some (.agg #[.string ⟨#[]⟩, .string ⟨#[]⟩, .string ⟨#[]⟩, .string ⟨#[]⟩, .int .i64 0, .int .i64 0, .int .i64 0, .int .i64 0, .int .i64 0]) ∧ i.size = 9 ∧ i.bytes = 104 := ⟨_, rfl, by kernel_rfl, by kernel_rfl, by kernel_rfl⟩
  go_enter Try.func8, Try.ntmps8
  go_wp2_with fail
  refine (Src.n_any 300 L0.out.di (by omega) (by omega)).mono ?_
  rintro e w1 ⟨⟨t0, rfl, t1, t2⟩, hl⟩
  replace P0 := Lib.hid (hl.blk P0.out hne.out)
  replace P5 := Lib.hid (hl.blk P5.out nb5)
  replace L0 := Lib.hid (L0.out.trans hl)
  clear hl
  rw [← hb5]
  have hb5' : w.heap.size < b5 := by omega
  replace hb5 := Lib.hid hb5
  go_wp2_with fail
  go_loopw [7] (fun s7 wr => ∃ (i : Nat) (xs : List Value) (rv : Value), s7 = .int .i64 (i : Int) ∧ i ≤ 4 ∧ xs.length = i * 9 ∧ (0 < i → Pk (xs.take 9)) ∧ Hid (wr.heap[b5]? = some (.cells #[.string ⟨#[]⟩, .string ⟨#[]⟩, .string ⟨#[]⟩, .string ⟨#[]⟩, .int .i64 0, .int .i64 0, .int .i64 0, .int .i64 0, .int .i64 0, rv, .int .i64 0, .int .i64 0, .int .i64 0, .int .i64 0, .int .i64 0, .int .i64 0, .int .i64 0, .int .i64 0, .int .i64 0, .int .i64 0, .int .i64 0, .int .i64 0, .int .i64 0, .int .i64 0, .int .i64 0] 45 (0, 0))) ∧ Hid (wr.heap[w.heap.size]? = some (.cells #[.string ⟨#[]⟩, .string ⟨#[]⟩, .string ⟨#[]⟩, .string ⟨#[]⟩, .int .i64 0, .int .i64 0, .int .i64 0, .int .i64 0, .int .i64 0, .slice none 0 0, .int .i64 0, .int .i64 0, .int .i64 0, .int .i64 0, .int .i64 0, .int .i64 0, .int .i64 0, .int .i64 0, .int .i64 0, .int .i64 0, .int .i64 0, .int .i64 0, .int .i64 0, .int .i64 0, .int .i64 0] 45 (0, 0))) ∧ Hid (wr.ownsRow w.heap.size 32 9 rv i xs) ∧ Hid (Src.Left W0 w wr g a len cap zs)) (fun s7 _ => (4 - intOf s7).toNat)
  case atStart => exact ⟨0, [], _, by simp, by omega, by simp, fun h => absurd h (by omega), P5, P0, Lib.hid (World.ownsRow_nil _ _ _ _), L0⟩
  case round =>
    clear P0 P5 L0
    obtain ⟨i, xs, rv, rfl, hi4, hxl, HP, P5, P0, O, L⟩ := hrel
    replace HP := Lib.hid HP
    have hwr := L.out.far.size
    have hgr := L.out.di.lt
    go_wp2_with fail
    refine (Src.n_any 4 L.out.di (by omega) (by omega)).mono ?_
    rintro e wr' ⟨⟨v, rfl, v0, v1⟩, hlr⟩
    replace P0 := Lib.hid (hlr.blk P0.out hne.out)
    replace P5 := Lib.hid (hlr.blk P5.out nb5)
    obtain ⟨pq0, hgR0⟩ : ∃ p : Nat, Hid (wr.heap[g]? = some (.cells #[.slice a len cap, .int .i64 p] 59 (0, 0))) := by obtain ⟨p, _, h⟩ := L.out.di.blk; exact ⟨p, h⟩
    replace O := Lib.hid (own_kept O.out (fun k hk => hlr.far.block k (O.out.lt k hk).2 (by have := own_ne O.out (b := g) (hgR0.out) (by decide); intro he; rw [← he] at this; exact this hk)))
    replace L := Lib.hid (L.out.trans hlr)
    clear hgR0 hlr hwr hgr
    have hwr := L.out.far.size
    have hgr := L.out.di.lt
    obtain ⟨pq, hgR⟩ : ∃ p : Nat, Hid (wr'.heap[g]? = some (.cells #[.slice a len cap, .int .i64 p] 59 (0, 0))) := by obtain ⟨p, _, h⟩ := L.out.di.blk; exact ⟨p, h⟩
    by_cases hlt : (i : Int) < 1 + v
    · have hi3 : i ≤ 3 := by omega
      go_wp2_with fail
      refine wp_region_noPanic ?_
      refine wp_region_any (by kernel_rfl) ?_
      have hw0 : Src.Left W0 wr' wr'.drew g a len cap zs := (Src.Left.refl L.out.di).drew
      have cp : ∀ w', Src.Left W0 wr' w' g a len cap zs → w'.cell? ⟨b5, 9, none⟩ = some rv := fun w' hl => cell_of_row _ b5 9 _ _ _ (hl.blk P5.out nb5)
      refine Inv.wpAny_inv (fun k => k == 23 || k == 24 || k == 25 || k == 26) [18, 19, 20, 21, 22, 23, 24, 25, 26, 27, 28, 29, 30, 31, 32, 33, 34, 35, 36, 37, 38, 39, 40] (fun w' => Src.Left W0 wr' w' g a len cap zs) (fun _ w1 w2 => w1.grownBy w2 (some g)) (fun k => ([fun v w => v = .pointer (some ⟨b5, 9, none⟩), fun v w => v = .pointer (some ⟨b5, 9, none⟩), fun v w => v = rv, fun v w => ∃ z : Int, v = .int .i64 z, fun v w => ∃ s0 s1 s2 s3 : ByteArray, v = .agg #[.string s0, .string s1, .string s2, .string s3], fun v w => ∃ z : Int, v = .int .i64 z, fun v w => ∃ z : Int, v = .int .i64 z, fun v w => ∃ z : Int, v = .int .i64 z, fun v w => ∃ z : Int, v = .int .i64 z, fun v w => ∃ z : Int, v = .int .i64 z, fun v w => ∃ z : Int, v = .int .i64 z, fun v w => ∃ z : Int, v = .int .i64 z, fun v w => ∃ z : Int, v = .int .i64 z, fun v w => ∃ z : Int, v = .int .i64 z, fun v w => ∃ z : Int, v = .int .i64 z, fun v w => ∃ z : Int, v = .int .i64 z, fun v w => ∃ z : Int, v = .int .i64 z, fun v w => v = .pointer (some ⟨g, 0, none⟩), fun v w => ∃ z : Int, v = .int .i64 z, fun v w => ∃ z : Int, v = .int .i64 z, fun v w => ∃ z : Int, v = .int .i64 z, fun v w => ∃ (s0 s1 s2 s3 : ByteArray) (n1 n2 n3 n4 n5 : Int), v = .agg #[.string s0, .string s1, .string s2, .string s3, .int .i64 n1, .int .i64 n2, .int .i64 n3, .int .i64 n4, .int .i64 n5], fun v w => ∃ (b : Nat) (s0 s1 s2 s3 : ByteArray) (n1 n2 n3 n4 n5 : Int), v = .slice (some ⟨b, 0, none⟩) 1 1 ∧ b ≠ g ∧ wr'.heap.size ≤ b ∧ b < w.heap.size ∧ w.heap[b]? = some (.cells #[.string s0, .string s1, .string s2, .string s3, .int .i64 n1, .int .i64 n2, .int .i64 n3, .int .i64 n4, .int .i64 n5] 32 (0, 0)), fun v w => True, fun v w => True, fun v w => True, fun v w => True] : List (Value → World → Prop)).getD k (fun _ _ => True)) _ (fun σ => by simp only [Inv.putAll, List.foldl_cons, List.foldl_nil, Act.put, List.setIfInBounds_toArray, List.set_cons_zero, List.set_cons_succ]; rfl) (by kernel_rfl) (by kernel_rfl) ?_ hw0 ?_ ?_ 4 #[true, true, true, true, true, true, true, true, true, true, true, true, true, true, true, true, true, true, true, true, true, true, true, false, false, false, false] (by kernel_rfl) (by kernel_rfl) ?_
      · intro j k v w1 w2 hjk hv hr
        rcases k with _ | k
        · exact hv
        rcases k with _ | k
        · exact hv
        rcases k with _ | k
        · exact hv
        rcases k with _ | k
        · exact hv
        rcases k with _ | k
        · exact hv
        rcases k with _ | k
        · exact hv
        rcases k with _ | k
        · exact hv
        rcases k with _ | k
        · exact hv
        rcases k with _ | k
        · exact hv
        rcases k with _ | k
        · exact hv
        rcases k with _ | k
        · exact hv
        rcases k with _ | k
        · exact hv
        rcases k with _ | k
        · exact hv
        rcases k with _ | k
        · exact hv
        rcases k with _ | k
        · exact hv
        rcases k with _ | k
        · exact hv
        rcases k with _ | k
        · exact hv
        rcases k with _ | k
        · exact hv
        rcases k with _ | k
        · exact hv
        rcases k with _ | k
        · exact hv
        rcases k with _ | k
        · exact hv
        rcases k with _ | k
        · exact hv
        rcases k with _ | k
        · exact by obtain ⟨b, s0, s1, s2, s3, n1, n2, n3, n4, n5, h1, h2, h3, h4, h5⟩ := hv; exact ⟨b, s0, s1, s2, s3, n1, n2, n3, n4, n5, h1, h2, h3, Nat.lt_of_lt_of_le h4 hr.size, (hr.block b h4 (by simpa using h2)).trans h5⟩
        rcases k with _ | k
        · exact hv
        rcases k with _ | k
        · exact hv
        rcases k with _ | k
        · exact hv
        rcases k with _ | k
        · exact hv
        · exact hv
      · intro k t hl hd
        rcases k with _ | k
        · exact absurd hl (by decide +kernel)
        rcases k with _ | k
        · exact absurd hl (by decide +kernel)
        rcases k with _ | k
        · exact absurd hl (by decide +kernel)
        rcases k with _ | k
        · exact absurd hl (by decide +kernel)
        rcases k with _ | k
        · exact absurd hl (by decide +kernel)
        rcases k with _ | k
        · exact absurd hl (by decide +kernel)
        rcases k with _ | k
        · exact absurd hl (by decide +kernel)
        rcases k with _ | k
        · exact absurd hl (by decide +kernel)
        rcases k with _ | k
        · exact absurd hl (by decide +kernel)
        rcases k with _ | k
        · exact absurd hl (by decide +kernel)
        rcases k with _ | k
        · exact absurd hl (by decide +kernel)
        rcases k with _ | k
        · exact absurd hl (by decide +kernel)
        rcases k with _ | k
        · exact absurd hl (by decide +kernel)
        rcases k with _ | k
        · exact absurd hl (by decide +kernel)
        rcases k with _ | k
        · exact absurd hl (by decide +kernel)
        rcases k with _ | k
        · exact absurd hl (by decide +kernel)
        rcases k with _ | k
        · exact absurd hl (by decide +kernel)
        rcases k with _ | k
        · exact absurd hl (by decide +kernel)
        rcases k with _ | k
        · exact absurd hl (by decide +kernel)
        rcases k with _ | k
        · exact absurd hl (by decide +kernel)
        rcases k with _ | k
        · exact absurd hl (by decide +kernel)
        rcases k with _ | k
        · exact absurd hl (by decide +kernel)
        rcases k with _ | k
        · exact absurd hl (by decide +kernel)
        rcases k with _ | k
        · exact absurd hl (by decide +kernel)
        rcases k with _ | k
        · exact absurd hl (by decide +kernel)
        rcases k with _ | k
        · exact absurd hl (by decide +kernel)
        rcases k with _ | k
        · exact absurd hl (by decide +kernel)
        · simp at hd
      · show Inv.Steps _ _ _ _ _ _ _ _ [0, 1, 2, 3, 4, 5, 6, 7, 8, 9, 10, 11, 12, 13, 14, 15, 16, 17, 18, 19, 20, 21, 22]
        refine Inv.Steps.go (by decide) (by rfl) (fun σ wx hw hd K hK => ?_) ?_
        · simp only [List.getElem_toArray, List.getElem_cons_zero, List.getElem_cons_succ, Act.put, List.setIfInBounds_toArray, List.set_cons_zero, List.set_cons_succ] at hK ⊢
          go_simp
          exact hK.out _ _ hw (Src.grown_of_below (Below.refl _ _)) (rfl)
        refine Inv.Steps.go (by decide) (by rfl) (fun σ wx hw hd K hK => ?_) ?_
        · obtain e18 : (σ 18) = .pointer (some ⟨b5, 9, none⟩) := hd 0 (some 18) (by kernel_rfl) (by rfl)
          simp only [List.getElem_toArray, List.getElem_cons_zero, List.getElem_cons_succ, Act.put, List.setIfInBounds_toArray, List.set_cons_zero, List.set_cons_succ, e18] at hK ⊢
          go_simp
          exact hK.out _ _ hw (Src.grown_of_below (Below.refl _ _)) (rfl)
        refine Inv.Steps.go (by decide) (by rfl) (fun σ wx hw hd K hK => ?_) ?_
        · obtain e19 : (σ 19) = .pointer (some ⟨b5, 9, none⟩) := hd 1 (some 19) (by kernel_rfl) (by rfl)
          simp only [List.getElem_toArray, List.getElem_cons_zero, List.getElem_cons_succ, Act.put, List.setIfInBounds_toArray, List.set_cons_zero, List.set_cons_succ, e19] at hK ⊢
          have hc := cp wx hw
          go_simp
          exact hK.out _ _ hw (Src.grown_of_below (Below.refl _ _)) (rfl)
        refine Inv.Steps.go (by decide) (by rfl) (fun σ wx hw hd K hK => ?_) ?_
        · simp only [List.getElem_toArray, List.getElem_cons_zero, List.getElem_cons_succ, Act.put, List.setIfInBounds_toArray, List.set_cons_zero, List.set_cons_succ] at hK ⊢
          go_simp
          exact hK.out _ _ hw (Src.grown_of_below (Below.refl _ _)) (⟨_, rfl⟩)
        refine Inv.Steps.go (by decide) (by rfl) (fun σ wx hw hd K hK => ?_) ?_
        · obtain ⟨z21, e21⟩ : ∃ z : Int, (σ 21) = .int .i64 z := hd 3 (some 21) (by kernel_rfl) (by rfl)
          simp only [List.getElem_toArray, List.getElem_cons_zero, List.getElem_cons_succ, Act.put, List.setIfInBounds_toArray, List.set_cons_zero, List.set_cons_succ, e21] at hK ⊢
          go_simp
          go_at_call 17
          refine (source_any z21 wx).mono ?_
          rintro e w1 ⟨⟨s0, s1, s2, s3, rfl⟩, hb⟩
          dsimp only
          exact hK.out _ _ (hw.below hb) (Src.grown_of_below hb) (⟨_, _, _, _, rfl⟩)
        refine Inv.Steps.go (by decide) (by rfl) (fun σ wx hw hd K hK => ?_) ?_
        · simp only [List.getElem_toArray, List.getElem_cons_zero, List.getElem_cons_succ, Act.put, List.setIfInBounds_toArray, List.set_cons_zero, List.set_cons_succ] at hK ⊢
          go_simp
          exact hK.out _ _ hw (Src.grown_of_below (Below.refl _ _)) (⟨_, rfl⟩)
        refine Inv.Steps.go (by decide) (by rfl) (fun σ wx hw hd K hK => ?_) ?_
        · simp only [List.getElem_toArray, List.getElem_cons_zero, List.getElem_cons_succ, Act.put, List.setIfInBounds_toArray, List.set_cons_zero, List.set_cons_succ] at hK ⊢
          go_simp
          exact hK.out _ _ hw (Src.grown_of_below (Below.refl _ _)) (⟨_, rfl⟩)
        refine Inv.Steps.go (by decide) (by rfl) (fun σ wx hw hd K hK => ?_) ?_
        · obtain ⟨z24, e24⟩ : ∃ z : Int, (σ 24) = .int .i64 z := hd 6 (some 24) (by kernel_rfl) (by rfl)
          simp only [List.getElem_toArray, List.getElem_cons_zero, List.getElem_cons_succ, Act.put, List.setIfInBounds_toArray, List.set_cons_zero, List.set_cons_succ, e24] at hK ⊢
          go_simp
          exact hK.out _ _ hw (Src.grown_of_below (Below.refl _ _)) (⟨_, rfl⟩)
        refine Inv.Steps.go (by decide) (by rfl) (fun σ wx hw hd K hK => ?_) ?_
        · obtain ⟨z23, e23⟩ : ∃ z : Int, (σ 23) = .int .i64 z := hd 5 (some 23) (by kernel_rfl) (by rfl)
          obtain ⟨z25, e25⟩ : ∃ z : Int, (σ 25) = .int .i64 z := hd 7 (some 25) (by kernel_rfl) (by rfl)
          simp only [List.getElem_toArray, List.getElem_cons_zero, List.getElem_cons_succ, Act.put, List.setIfInBounds_toArray, List.set_cons_zero, List.set_cons_succ, e23, e25] at hK ⊢
          go_simp
          exact hK.out _ _ hw (Src.grown_of_below (Below.refl _ _)) (⟨_, rfl⟩)
        refine Inv.Steps.go (by decide) (by rfl) (fun σ wx hw hd K hK => ?_) ?_
        · simp only [List.getElem_toArray, List.getElem_cons_zero, List.getElem_cons_succ, Act.put, List.setIfInBounds_toArray, List.set_cons_zero, List.set_cons_succ] at hK ⊢
          go_simp
          exact hK.out _ _ hw (Src.grown_of_below (Below.refl _ _)) (⟨_, rfl⟩)
        refine Inv.Steps.go (by decide) (by rfl) (fun σ wx hw hd K hK => ?_) ?_
        · simp only [List.getElem_toArray, List.getElem_cons_zero, List.getElem_cons_succ, Act.put, List.setIfInBounds_toArray, List.set_cons_zero, List.set_cons_succ] at hK ⊢
          go_simp
          exact hK.out _ _ hw (Src.grown_of_below (Below.refl _ _)) (⟨_, rfl⟩)
        refine Inv.Steps.go (by decide) (by rfl) (fun σ wx hw hd K hK => ?_) ?_
        · obtain ⟨z28, e28⟩ : ∃ z : Int, (σ 28) = .int .i64 z := hd 10 (some 28) (by kernel_rfl) (by rfl)
          simp only [List.getElem_toArray, List.getElem_cons_zero, List.getElem_cons_succ, Act.put, List.setIfInBounds_toArray, List.set_cons_zero, List.set_cons_succ, e28] at hK ⊢
          go_simp
          exact hK.out _ _ hw (Src.grown_of_below (Below.refl _ _)) (⟨_, rfl⟩)
        refine Inv.Steps.go (by decide) (by rfl) (fun σ wx hw hd K hK => ?_) ?_
        · obtain ⟨z27, e27⟩ : ∃ z : Int, (σ 27) = .int .i64 z := hd 9 (some 27) (by kernel_rfl) (by rfl)
          obtain ⟨z29, e29⟩ : ∃ z : Int, (σ 29) = .int .i64 z := hd 11 (some 29) (by kernel_rfl) (by rfl)
          simp only [List.getElem_toArray, List.getElem_cons_zero, List.getElem_cons_succ, Act.put, List.setIfInBounds_toArray, List.set_cons_zero, List.set_cons_succ, e27, e29] at hK ⊢
          go_simp
          exact hK.out _ _ hw (Src.grown_of_below (Below.refl _ _)) (⟨_, rfl⟩)
        refine Inv.Steps.go (by decide) (by rfl) (fun σ wx hw hd K hK => ?_) ?_
        · simp only [List.getElem_toArray, List.getElem_cons_zero, List.getElem_cons_succ, Act.put, List.setIfInBounds_toArray, List.set_cons_zero, List.set_cons_succ] at hK ⊢
          go_simp
          exact hK.out _ _ hw (Src.grown_of_below (Below.refl _ _)) (⟨_, rfl⟩)
        refine Inv.Steps.go (by decide) (by rfl) (fun σ wx hw hd K hK => ?_) ?_
        · simp only [List.getElem_toArray, List.getElem_cons_zero, List.getElem_cons_succ, Act.put, List.setIfInBounds_toArray, List.set_cons_zero, List.set_cons_succ] at hK ⊢
          go_simp
          exact hK.out _ _ hw (Src.grown_of_below (Below.refl _ _)) (⟨_, rfl⟩)
        refine Inv.Steps.go (by decide) (by rfl) (fun σ wx hw hd K hK => ?_) ?_
        · obtain ⟨z32, e32⟩ : ∃ z : Int, (σ 32) = .int .i64 z := hd 14 (some 32) (by kernel_rfl) (by rfl)
          simp only [List.getElem_toArray, List.getElem_cons_zero, List.getElem_cons_succ, Act.put, List.setIfInBounds_toArray, List.set_cons_zero, List.set_cons_succ, e32] at hK ⊢
          go_simp
          exact hK.out _ _ hw (Src.grown_of_below (Below.refl _ _)) (⟨_, rfl⟩)
        refine Inv.Steps.go (by decide) (by rfl) (fun σ wx hw hd K hK => ?_) ?_
        · obtain ⟨z31, e31⟩ : ∃ z : Int, (σ 31) = .int .i64 z := hd 13 (some 31) (by kernel_rfl) (by rfl)
          obtain ⟨z33, e33⟩ : ∃ z : Int, (σ 33) = .int .i64 z := hd 15 (some 33) (by kernel_rfl) (by rfl)
          simp only [List.getElem_toArray, List.getElem_cons_zero, List.getElem_cons_succ, Act.put, List.setIfInBounds_toArray, List.set_cons_zero, List.set_cons_succ, e31, e33] at hK ⊢
          go_simp
          exact hK.out _ _ hw (Src.grown_of_below (Below.refl _ _)) (⟨_, rfl⟩)
        refine Inv.Steps.go (by decide) (by rfl) (fun σ wx hw hd K hK => ?_) ?_
        · simp only [List.getElem_toArray, List.getElem_cons_zero, List.getElem_cons_succ, Act.put, List.setIfInBounds_toArray, List.set_cons_zero, List.set_cons_succ] at hK ⊢
          go_simp
          exact hK.out _ _ hw (Src.grown_of_below (Below.refl _ _)) (rfl)
        refine Inv.Steps.go (by decide) (by rfl) (fun σ wx hw hd K hK => ?_) ?_
        · obtain e35 : (σ 35) = .pointer (some ⟨g, 0, none⟩) := hd 17 (some 35) (by kernel_rfl) (by rfl)
          simp only [List.getElem_toArray, List.getElem_cons_zero, List.getElem_cons_succ, Act.put, List.setIfInBounds_toArray, List.set_cons_zero, List.set_cons_succ, e35] at hK ⊢
          go_simp
          go_at_call 9
          refine (Src.n_any 3 hw.di (by omega) (by omega)).mono ?_
          rintro e w1 ⟨⟨v, rfl, v0, v1⟩, hl⟩
          dsimp only
          exact hK.out _ _ (hw.trans hl) hl.far (⟨_, rfl⟩)
        refine Inv.Steps.go (by decide) (by rfl) (fun σ wx hw hd K hK => ?_) ?_
        · obtain ⟨z34, e34⟩ : ∃ z : Int, (σ 34) = .int .i64 z := hd 16 (some 34) (by kernel_rfl) (by rfl)
          obtain ⟨z36, e36⟩ : ∃ z : Int, (σ 36) = .int .i64 z := hd 18 (some 36) (by kernel_rfl) (by rfl)
          simp only [List.getElem_toArray, List.getElem_cons_zero, List.getElem_cons_succ, Act.put, List.setIfInBounds_toArray, List.set_cons_zero, List.set_cons_succ, e34, e36] at hK ⊢
          go_simp
          exact hK.out _ _ hw (Src.grown_of_below (Below.refl _ _)) (⟨_, rfl⟩)
        refine Inv.Steps.go (by decide) (by rfl) (fun σ wx hw hd K hK => ?_) ?_
        · simp only [List.getElem_toArray, List.getElem_cons_zero, List.getElem_cons_succ, Act.put, List.setIfInBounds_toArray, List.set_cons_zero, List.set_cons_succ] at hK ⊢
          go_simp
          exact hK.out _ _ hw (Src.grown_of_below (Below.refl _ _)) (⟨_, rfl⟩)
        refine Inv.Steps.go (by decide) (by rfl) (fun σ wx hw hd K hK => ?_) ?_
        · obtain ⟨s0, s1, s2, s3, e22⟩ : ∃ s0 s1 s2 s3 : ByteArray, (σ 22) = .agg #[.string s0, .string s1, .string s2, .string s3] := hd 4 (some 22) (by kernel_rfl) (by rfl)
          obtain ⟨z26, e26⟩ : ∃ z : Int, (σ 26) = .int .i64 z := hd 8 (some 26) (by kernel_rfl) (by rfl)
          obtain ⟨z30, e30⟩ : ∃ z : Int, (σ 30) = .int .i64 z := hd 12 (some 30) (by kernel_rfl) (by rfl)
          obtain ⟨z37, e37⟩ : ∃ z : Int, (σ 37) = .int .i64 z := hd 19 (some 37) (by kernel_rfl) (by rfl)
          obtain ⟨z38, e38⟩ : ∃ z : Int, (σ 38) = .int .i64 z := hd 20 (some 38) (by kernel_rfl) (by rfl)
          simp only [List.getElem_toArray, List.getElem_cons_zero, List.getElem_cons_succ, Act.put, List.setIfInBounds_toArray, List.set_cons_zero, List.set_cons_succ, e22, e26, e30, e37, e38] at hK ⊢
          go_simp
          exact hK.out _ _ hw (Src.grown_of_below (Below.refl _ _)) (⟨_, _, _, _, _, _, _, _, _, rfl⟩)
        refine Inv.Steps.go (by decide) (by rfl) (fun σ wx hw hd K hK => ?_) ?_
        · obtain ⟨s0, s1, s2, s3, n1, n2, n3, n4, n5, e39⟩ : ∃ (s0 s1 s2 s3 : ByteArray) (n1 n2 n3 n4 n5 : Int), (σ 39) = .agg #[.string s0, .string s1, .string s2, .string s3, .int .i64 n1, .int .i64 n2, .int .i64 n3, .int .i64 n4, .int .i64 n5] := hd 21 (some 39) (by kernel_rfl) (by rfl)
          simp only [List.getElem_toArray, List.getElem_cons_zero, List.getElem_cons_succ, Act.put, List.setIfInBounds_toArray, List.set_cons_zero, List.set_cons_succ, e39] at hK ⊢
          have hne := hw.di.lt
          have hsz := hw.far.size
          go_simp
          exact hK.out _ _ (hw.alloc _) (Src.grown_of_below ((Below.refl wx.heap.size wx).alloc (Nat.le_refl _) _) : World.grownBy wx _ (some g)) (⟨wx.heap.size, _, _, _, _, _, _, _, _, _, rfl, by omega, hsz, by simp, heap_alloc_new _ _⟩)
        exact Inv.Steps.nil
      · intro σ wx hw hd
        obtain e20 : (σ 20) = rv := hd 2 (some 20) (by rfl) (by rfl)
        obtain ⟨b40, s0, s1, s2, s3, n1, n2, n3, n4, n5, e40, ng40, le40, lt40, c40⟩ : ∃ (b : Nat) (s0 s1 s2 s3 : ByteArray) (n1 n2 n3 n4 n5 : Int), (σ 40) = .slice (some ⟨b, 0, none⟩) 1 1 ∧ b ≠ g ∧ wr'.heap.size ≤ b ∧ b < wx.heap.size ∧ wx.heap[b]? = some (.cells #[.string s0, .string s1, .string s2, .string s3, .int .i64 n1, .int .i64 n2, .int .i64 n3, .int .i64 n4, .int .i64 n5] 32 (0, 0)) := hd 22 (some 40) (by rfl) (by rfl)
        have O1 := own_kept O.out (fun k hk => hw.far.block k (O.out.lt k hk).2 (by have := own_ne O.out (b := g) (hgR.out) (by decide); intro he; rw [← he] at this; exact this hk))
        have hsz := hw.far.size
        refine Inv.one (i := 23) (by decide) (by kernel_rfl) (by rfl) (fun K hK => ?_)
        simp only [List.getElem_toArray, List.getElem_cons_zero, List.getElem_cons_succ, Act.put, List.setIfInBounds_toArray, List.set_cons_zero, List.set_cons_succ, e20, e40] at hK ⊢
        refine wp_append_lies wx (.tmp 20) (.tmp 40) 33 rfl w.heap.size 32 i0 (.agg #[.string ⟨#[]⟩, .string ⟨#[]⟩, .string ⟨#[]⟩, .string ⟨#[]⟩, .int .i64 0, .int .i64 0, .int .i64 0, .int .i64 0, .int .i64 0]) 9 104 Try.underlying33 hi hz0 hz1 hz2 (by rfl) (by decide) rv i xs rfl O1 ⟨b40, 0, none⟩ 1 1 [.string s0, .string s1, .string s2, .string s3, .int .i64 n1, .int .i64 n2, .int .i64 n3, .int .i64 n4, .int .i64 n5] rfl rfl (World.news_of_block c40) (by simp [Value.oneCell']) (by decide) (by unfold maxLen; omega) (by omega) (by omega) _ rfl (fun gq cq w2 O2 G2 hg2 hl2 => ?_)
        refine hK.out _ _ ?_
        clear hK K
        have P2 := (G2.block b5 (by have := (Array.getElem?_eq_some_iff.1 (hw.blk P5.out nb5)).1; exact this) (Ne.symm (own_ne O1 (hw.blk P5.out nb5) (by decide)))).trans (hw.blk P5.out nb5)
        have P3 := (G2.block w.heap.size (by have := (Array.getElem?_eq_some_iff.1 (hw.blk P0.out hne.out)).1; exact this) (Ne.symm (own_ne O1 (hw.blk P0.out hne.out) (by decide)))).trans (hw.blk P0.out hne.out)
        have c9 := cell_of_row w2 b5 9 _ _ _ P2
        have f9 := frozen_of_row w2 b5 9 _ _ P2
        refine Inv.one (i := 24) (by decide) (by kernel_rfl) (by rfl) (fun K hK => ?_)
        simp only [List.getElem_toArray, List.getElem_cons_zero, List.getElem_cons_succ, Act.put, List.setIfInBounds_toArray, List.set_cons_zero, List.set_cons_succ] at hK ⊢
        go_simp
        refine hK.out _ _ ?_
        clear hK K
        refine Inv.one (i := 25) (by decide) (by kernel_rfl) (by rfl) (fun K hK => ?_)
        simp only [List.getElem_toArray, List.getElem_cons_zero, List.getElem_cons_succ, Act.put, List.setIfInBounds_toArray, List.set_cons_zero, List.set_cons_succ] at hK ⊢
        go_simp
        refine hK.out _ _ ?_
        clear hK K
        refine Inv.one (i := 26) (by decide) (by kernel_rfl) (by rfl) (fun K hK => ?_)
        simp only [List.getElem_toArray, List.getElem_cons_zero, List.getElem_cons_succ, Act.put, List.setIfInBounds_toArray, List.set_cons_zero, List.set_cons_succ] at hK ⊢
        go_simp
        refine hK.out _ _ (Inv.done (by kernel_rfl) (NoPanic.normal ?_))
        clear hK K
        have B2 : Below w.heap.size wx w2 := ⟨G2.os, G2.tape, G2.output, G2.size, fun k hk => G2.block k (by omega) (fun he => by have := (O1.lt k he.symm).1; omega)⟩
        have Q5 : Hid ((w2.setCell ⟨b5, 9, none⟩ (.slice (some ⟨gq, 0, none⟩) (i + 1) cq)).heap[b5]? = some (.cells #[.string ⟨#[]⟩, .string ⟨#[]⟩, .string ⟨#[]⟩, .string ⟨#[]⟩, .int .i64 0, .int .i64 0, .int .i64 0, .int .i64 0, .int .i64 0, .slice (some ⟨gq, 0, none⟩) (i + 1) cq, .int .i64 0, .int .i64 0, .int .i64 0, .int .i64 0, .int .i64 0, .int .i64 0, .int .i64 0, .int .i64 0, .int .i64 0, .int .i64 0, .int .i64 0, .int .i64 0, .int .i64 0, .int .i64 0, .int .i64 0] 45 (0, 0))) := Lib.hid ((heap_setCell_same w2 b5 9 _ _ (.slice (some ⟨gq, 0, none⟩) (i + 1) cq) P2).trans rfl)
        have Q0 := Lib.hid ((Below.heap_setCell w2 ⟨b5, 9, none⟩ (.slice (some ⟨gq, 0, none⟩) (i + 1) cq) w.heap.size (by show w.heap.size ≠ b5; omega)).trans P3)
        have ngq := own_ne O2 P2 (by decide)
        have O3 := Lib.hid (own_kept (w' := w2.setCell ⟨b5, 9, none⟩ (.slice (some ⟨gq, 0, none⟩) (i + 1) cq)) O2 (fun k hk => Below.heap_setCell w2 _ _ k (fun he => by subst he; exact ngq hk)))
        have L3 := Lib.hid (Src.Left.past H.out (L.out.trans hw) (B2.setCell (p := ⟨b5, 9, none⟩) (by show w.heap.size ≤ b5; omega) (.slice (some ⟨gq, 0, none⟩) (i + 1) cq)))
        have XL := (show (xs ++ ([.string s0, .string s1, .string s2, .string s3, .int .i64 n1, .int .i64 n2, .int .i64 n3, .int .i64 n4, .int .i64 n5] : List Value)).length = (i + 1) * 9 by simp [hxl]; omega)
        have XP : Hid (Pk ((xs ++ ([.string s0, .string s1, .string s2, .string s3, .int .i64 n1, .int .i64 n2, .int .i64 n3, .int .i64 n4, .int .i64 n5] : List Value)).take 9)) := Lib.hid (by rcases Nat.eq_zero_or_pos i with h0 | h0; (have : xs = [] := List.eq_nil_of_length_eq_zero (by rw [hxl, h0])); subst this; exact ⟨_, _, _, _, _, _, _, _, _, rfl⟩; rw [List.take_append_of_le_length (by omega)]; exact HP.out h0)
        clear O1 O2 G2 P2 P3 c9 f9 hg2 hl2 ngq B2 hw hd c40
        generalize w2.setCell ⟨b5, 9, none⟩ (.slice (some ⟨gq, 0, none⟩) (i + 1) cq) = w3_ at *
        go_wp2_with fail
        go_roundw
        case rel => exact ⟨i + 1, _, _, by go_num, by omega, XL, fun _ => XP.out, Q5, Q0, (by simpa using O3), L3⟩
        case measure => simp [intOf]; omega
    · have hi1 : (0 : Int) < i := by omega
      have hd1 : decide ((i : Int) < 1 + v) = false := decide_eq_false hlt
      have ngb := own_ne O.out P5.out (by decide)
      have r9 : ∃ gb cb, rv = .slice (some ⟨gb, 0, none⟩) i cb ∧ i ≤ cb ∧ ∃ (s0 s1 s2 s3 : ByteArray) (n1 n2 n3 n4 n5 : Int), wr'.rangeAt gb 0 [.string s0, .string s1, .string s2, .string s3, .int .i64 n1, .int .i64 n2, .int .i64 n3, .int .i64 n4, .int .i64 n5] := by
        obtain ⟨gb, cb, rfl, hgb, hgl⟩ := O.out.form (by omega)
        obtain ⟨s0, s1, s2, s3, n1, n2, n3, n4, n5, hx9⟩ := HP.out (by omega)
        have hcb : i ≤ cb := by
          rcases O.out.2 with ⟨e, _⟩ | ⟨g', c', cur, e, _, _, h3, _⟩
          · simp at e
          · simp only [Value.slice.injEq, Option.some.injEq, Addr.mk.injEq, and_true, true_and] at e
            obtain ⟨rfl, rfl⟩ := e
            exact h3
        refine ⟨gb, cb, rfl, hcb, s0, s1, s2, s3, n1, n2, n3, n4, n5, fun j u hj => ?_⟩
        have hj9 : j < 9 := (List.getElem?_eq_some_iff.1 hj).1
        rw [Nat.zero_add, World.ownsRow.cellAt O.out j (by omega), ← hj, ← hx9, List.getElem?_take, if_pos hj9]
      obtain ⟨gb, cb, rfl, hcb, s0, s1, s2, s3, n1, n2, n3, n4, n5, r9⟩ := r9
      replace r9 := Lib.hid r9
      have c9 : wr'.cell? ⟨b5, 9, none⟩ = some (.slice (some ⟨gb, 0, none⟩) i cb) := cell_of_row wr' b5 9 _ _ _ P5.out
      have th9 := Lib.hid (Mid.there P5.out 0 9 (by simp))
      have Q5 : Hid ((wr'.setCells b5 0 [.string s0, .string s1, .string s2, .string s3, .int .i64 n1, .int .i64 n2, .int .i64 n3, .int .i64 n4, .int .i64 n5]).heap[b5]? = some (.cells #[.string s0, .string s1, .string s2, .string s3, .int .i64 n1, .int .i64 n2, .int .i64 n3, .int .i64 n4, .int .i64 n5, .slice (some ⟨gb, 0, none⟩) i cb, .int .i64 0, .int .i64 0, .int .i64 0, .int .i64 0, .int .i64 0, .int .i64 0, .int .i64 0, .int .i64 0, .int .i64 0, .int .i64 0, .int .i64 0, .int .i64 0, .int .i64 0, .int .i64 0, .int .i64 0] 45 (0, 0))) := Lib.hid ((Mid.heap_set b5 _ [.string s0, .string s1, .string s2, .string s3, .int .i64 n1, .int .i64 n2, .int .i64 n3, .int .i64 n4, .int .i64 n5] 0 wr' _ P5.out).trans (by kernel_rfl))
      have Q0 := Lib.hid ((Mid.other b5 w.heap.size (by omega) [.string s0, .string s1, .string s2, .string s3, .int .i64 n1, .int .i64 n2, .int .i64 n3, .int .i64 n4, .int .i64 n5] 0 wr').trans P0.out)
      have L1 := Lib.hid (Src.Left.past H.out L.out (Mid.below w.heap.size b5 wr' (by omega) [.string s0, .string s1, .string s2, .string s3, .int .i64 n1, .int .i64 n2, .int .i64 n3, .int .i64 n4, .int .i64 n5] 0 wr' (Below.refl _ _)))
      clear O HP ngb hgR
      go_wp2_with (first | ((with_reducible refine Mid.ldm 32 (.tmp 47) gb 0 [.string s0, .string s1, .string s2, .string s3, .int .i64 n1, .int .i64 n2, .int .i64 n3, .int .i64 n4, .int .i64 n5] r9.out ?_ ?_ ?_ ?_ ?_ ?_); (· rfl); (· rfl); (· first | rfl | simp [Act.eval]); (· exact ⟨_, rfl, rfl⟩); (· kernel_rfl)) | ((with_reducible refine Mid.stm 32 (.tmp 49) (.tmp 48) b5 0 9 [.string s0, .string s1, .string s2, .string s3, .int .i64 n1, .int .i64 n2, .int .i64 n3, .int .i64 n4, .int .i64 n5] th9.out ?_ ?_ ?_ ?_ ?_ ?_ ?_ ?_); (· rfl); (· rfl); (· first | rfl | simp [Act.eval]); (· first | rfl | simp [Act.eval]); (· rfl); (· kernel_rfl); (· simp [Value.oneCell'])))
      clear r9 c9 th9 P5 P0 L
      generalize wr'.setCells b5 0 [.string s0, .string s1, .string s2, .string s3, .int .i64 n1, .int .i64 n2, .int .i64 n3, .int .i64 n4, .int .i64 n5] = w3 at *
      refine (Src.place_any 20 L1.out.di (by omega) (by omega)).mono ?_
      rintro e w4 ⟨⟨X, Y, Z, rfl, x0, x1, y0, y1, z0, z1⟩, hl⟩
      replace Q0 := Lib.hid (hl.blk Q0.out hne.out)
      replace Q5 := Lib.hid (hl.blk Q5.out nb5)
      replace L1 := Lib.hid (L1.out.trans hl)
      clear hl
      go_wp2_with fail
      refine (Src.n_any 40 L1.out.di (by omega) (by omega)).mono ?_
      rintro e w5 ⟨⟨u, rfl, u0, u1⟩, hl⟩
      replace Q0 := Lib.hid (hl.blk Q0.out hne.out)
      replace Q5 := Lib.hid (hl.blk Q5.out nb5)
      replace L1 := Lib.hid (L1.out.trans hl)
      clear hl
      have I1 := Lib.hid (Src.ints_alloc w5 [0, 0, 5, 500] 3)
      have nn1 := L1.out.di.lt
      go_wp2_with fail
      refine (Src.pick_any w5.heap.size [0, 0, 5, 500] 4 4 (L1.out.alloc _).di I1.out rfl (by omega) (by omega) (by omega) (by simp)).mono ?_
      rintro e w6 ⟨⟨Mi, rfl, hMi⟩, hl⟩
      replace Q0 := Lib.hid (hl.blk (Geo.blk_alloc Q0.out _) hne.out)
      replace Q5 := Lib.hid (hl.blk (Geo.blk_alloc Q5.out _) nb5)
      replace L1 := Lib.hid ((L1.out.alloc _).trans hl)
      clear hl I1 nn1 hMi
      obtain ⟨T, hT, hT1, hT2⟩ : ∃ T : Int, 1000 + t0 - u = T ∧ 0 ≤ T ∧ T ≤ 2000 := ⟨_, rfl, by omega, by omega⟩
      have th10 := Lib.hid (Mid.there Q5.out 10 12 (by simp))
      have Q5b : Hid ((w6.setCells b5 10 [.int .i64 X, .int .i64 Y, .int .i64 Z, .int .i64 T, .int .i64 Mi, .int .i64 0, .int .i64 0, .int .i64 0, .int .i64 0, .int .i64 0, .int .i64 0, .int .i64 0]).heap[b5]? = some (.cells #[.string s0, .string s1, .string s2, .string s3, .int .i64 n1, .int .i64 n2, .int .i64 n3, .int .i64 n4, .int .i64 n5, .slice (some ⟨gb, 0, none⟩) i cb, .int .i64 X, .int .i64 Y, .int .i64 Z, .int .i64 T, .int .i64 Mi, .int .i64 0, .int .i64 0, .int .i64 0, .int .i64 0, .int .i64 0, .int .i64 0, .int .i64 0, .int .i64 0, .int .i64 0, .int .i64 0] 45 (0, 0))) := Lib.hid ((Mid.heap_set b5 _ [.int .i64 X, .int .i64 Y, .int .i64 Z, .int .i64 T, .int .i64 Mi, .int .i64 0, .int .i64 0, .int .i64 0, .int .i64 0, .int .i64 0, .int .i64 0, .int .i64 0] 10 w6 _ Q5.out).trans (by kernel_rfl))
      have rp := Lib.hid (Mid.range Q5b.out 10 [.int .i64 X, .int .i64 Y, .int .i64 Z] (by kernel_rfl))
      have th16 := Lib.hid (Mid.there Q5b.out 16 6 (by simp))
      have Q5c : Hid (((w6.setCells b5 10 [.int .i64 X, .int .i64 Y, .int .i64 Z, .int .i64 T, .int .i64 Mi, .int .i64 0, .int .i64 0, .int .i64 0, .int .i64 0, .int .i64 0, .int .i64 0, .int .i64 0]).setCells b5 16 [.int .i64 X, .int .i64 Y, .int .i64 Z, .int .i64 X, .int .i64 Y, .int .i64 Z]).heap[b5]? = some (.cells #[.string s0, .string s1, .string s2, .string s3, .int .i64 n1, .int .i64 n2, .int .i64 n3, .int .i64 n4, .int .i64 n5, .slice (some ⟨gb, 0, none⟩) i cb, .int .i64 X, .int .i64 Y, .int .i64 Z, .int .i64 T, .int .i64 Mi, .int .i64 0, .int .i64 X, .int .i64 Y, .int .i64 Z, .int .i64 X, .int .i64 Y, .int .i64 Z, .int .i64 0, .int .i64 0, .int .i64 0] 45 (0, 0))) := Lib.hid ((Mid.heap_set b5 _ [.int .i64 X, .int .i64 Y, .int .i64 Z, .int .i64 X, .int .i64 Y, .int .i64 Z] 16 _ _ Q5b.out).trans (by kernel_rfl))
      have Q0c := Lib.hid (((Mid.other b5 w.heap.size (by omega) [.int .i64 X, .int .i64 Y, .int .i64 Z, .int .i64 X, .int .i64 Y, .int .i64 Z] 16 (w6.setCells b5 10 [.int .i64 X, .int .i64 Y, .int .i64 Z, .int .i64 T, .int .i64 Mi, .int .i64 0, .int .i64 0, .int .i64 0, .int .i64 0, .int .i64 0, .int .i64 0, .int .i64 0])).trans (Mid.other b5 w.heap.size (by omega) [.int .i64 X, .int .i64 Y, .int .i64 Z, .int .i64 T, .int .i64 Mi, .int .i64 0, .int .i64 0, .int .i64 0, .int .i64 0, .int .i64 0, .int .i64 0, .int .i64 0] 10 w6)).trans Q0.out)
      have L1c := Lib.hid (Src.Left.past H.out L1.out (Mid.below w.heap.size b5 w6 (by omega) [.int .i64 X, .int .i64 Y, .int .i64 Z, .int .i64 X, .int .i64 Y, .int .i64 Z] 16 _ (Mid.below w.heap.size b5 w6 (by omega) [.int .i64 X, .int .i64 Y, .int .i64 Z, .int .i64 T, .int .i64 Mi, .int .i64 0, .int .i64 0, .int .i64 0, .int .i64 0, .int .i64 0, .int .i64 0, .int .i64 0] 10 w6 (Below.refl _ _))))
      clear Q5 Q0 L1
      have hT' := hT
      replace hT := Lib.hid hT
      go_wp2_with (first | ((with_reducible refine Mid.stm 39 (.tmp 61) (.tmp 59) b5 10 12 [.int .i64 X, .int .i64 Y, .int .i64 Z, .int .i64 T, .int .i64 Mi, .int .i64 0, .int .i64 0, .int .i64 0, .int .i64 0, .int .i64 0, .int .i64 0, .int .i64 0] th10.out ?_ ?_ ?_ ?_ ?_ ?_ ?_ ?_); (· rfl); (· rfl); (· first | rfl | simp [Act.eval]); (· simp [Act.eval, hT.out]); (· rfl); (· kernel_rfl); (· simp [Value.oneCell'])) | ((with_reducible refine Mid.ldm 35 (.tmp 64) b5 10 [.int .i64 X, .int .i64 Y, .int .i64 Z] rp.out ?_ ?_ ?_ ?_ ?_ ?_); (· rfl); (· rfl); (· first | rfl | simp [Act.eval]); (· exact ⟨_, rfl, rfl⟩); (· kernel_rfl)) | ((with_reducible refine Mid.ldm 35 (.tmp 68) b5 10 [.int .i64 X, .int .i64 Y, .int .i64 Z] rp.out ?_ ?_ ?_ ?_ ?_ ?_); (· rfl); (· rfl); (· first | rfl | simp [Act.eval]); (· exact ⟨_, rfl, rfl⟩); (· kernel_rfl)) | ((with_reducible refine Mid.stm 37 (.tmp 73) (.tmp 70) b5 16 6 [.int .i64 X, .int .i64 Y, .int .i64 Z, .int .i64 X, .int .i64 Y, .int .i64 Z] th16.out ?_ ?_ ?_ ?_ ?_ ?_ ?_ ?_); (· rfl); (· rfl); (· first | rfl | simp [Act.eval]); (· first | rfl | simp [Act.eval]); (· rfl); (· kernel_rfl); (· simp [Value.oneCell'])))
      clear Q5b rp th10 th16
      generalize (w6.setCells b5 10 [.int .i64 X, .int .i64 Y, .int .i64 Z, .int .i64 T, .int .i64 Mi, .int .i64 0, .int .i64 0, .int .i64 0, .int .i64 0, .int .i64 0, .int .i64 0, .int .i64 0]).setCells b5 16 [.int .i64 X, .int .i64 Y, .int .i64 Z, .int .i64 X, .int .i64 Y, .int .i64 Z] = w7 at *
      refine (Src.n_any 3 L1c.out.di (by omega) (by omega)).mono ?_
      rintro e w8 ⟨⟨C, rfl, C0, C1⟩, hl⟩
      replace Q0c := Lib.hid (hl.blk Q0c.out hne.out)
      replace Q5c := Lib.hid (hl.blk Q5c.out nb5)
      replace L1c := Lib.hid (L1c.out.trans hl)
      clear hl
      have c24 := cell_of_row w8 b5 24 _ _ _ Q5c.out
      have f24 := frozen_of_row w8 b5 24 _ _ Q5c.out
      have Q5d : Hid ((w8.setCell ⟨b5, 24, none⟩ (.int .i64 C)).heap[b5]? = some (.cells #[.string s0, .string s1, .string s2, .string s3, .int .i64 n1, .int .i64 n2, .int .i64 n3, .int .i64 n4, .int .i64 n5, .slice (some ⟨gb, 0, none⟩) i cb, .int .i64 X, .int .i64 Y, .int .i64 Z, .int .i64 T, .int .i64 Mi, .int .i64 0, .int .i64 X, .int .i64 Y, .int .i64 Z, .int .i64 X, .int .i64 Y, .int .i64 Z, .int .i64 0, .int .i64 0, .int .i64 C] 45 (0, 0))) := Lib.hid ((heap_setCell_same w8 b5 24 _ _ (.int .i64 C) Q5c.out).trans (by kernel_rfl))
      have Q0d := Lib.hid ((Below.heap_setCell w8 ⟨b5, 24, none⟩ (.int .i64 C) w.heap.size (by show w.heap.size ≠ b5; omega)).trans Q0c.out)
      have L1d := Lib.hid (Src.Left.past H.out L1c.out ((Below.refl w.heap.size w8).setCell (p := ⟨b5, 24, none⟩) (by show w.heap.size ≤ b5; omega) (.int .i64 C)))
      clear Q5c Q0c L1c
      by_cases hC : 0 < C
      · go_wp2_with fail
        clear c24 f24
        generalize w8.setCell ⟨b5, 24, none⟩ (.int .i64 C) = w9 at *
        refine (Src.n_any 400 L1d.out.di (by omega) (by omega)).mono ?_
        rintro e w10 ⟨⟨Lm, rfl, l0, l1⟩, hl⟩
        replace Q0d := Lib.hid (hl.blk Q0d.out hne.out)
        replace Q5d := Lib.hid (hl.blk Q5d.out nb5)
        replace L1d := Lib.hid (L1d.out.trans hl)
        clear hl
        have c22 := cell_of_row w10 b5 22 _ _ _ Q5d.out
        have f22 := frozen_of_row w10 b5 22 _ _ Q5d.out
        have Q5e : Hid ((w10.setCell ⟨b5, 22, none⟩ (.int .i64 Lm)).heap[b5]? = some (.cells #[.string s0, .string s1, .string s2, .string s3, .int .i64 n1, .int .i64 n2, .int .i64 n3, .int .i64 n4, .int .i64 n5, .slice (some ⟨gb, 0, none⟩) i cb, .int .i64 X, .int .i64 Y, .int .i64 Z, .int .i64 T, .int .i64 Mi, .int .i64 0, .int .i64 X, .int .i64 Y, .int .i64 Z, .int .i64 X, .int .i64 Y, .int .i64 Z, .int .i64 Lm, .int .i64 0, .int .i64 C] 45 (0, 0))) := Lib.hid ((heap_setCell_same w10 b5 22 _ _ (.int .i64 Lm) Q5d.out).trans (by kernel_rfl))
        have Q0e := Lib.hid ((Below.heap_setCell w10 ⟨b5, 22, none⟩ (.int .i64 Lm) w.heap.size (by show w.heap.size ≠ b5; omega)).trans Q0d.out)
        have L1e := Lib.hid (Src.Left.past H.out L1d.out ((Below.refl w.heap.size w10).setCell (p := ⟨b5, 22, none⟩) (by show w.heap.size ≤ b5; omega) (.int .i64 Lm)))
        clear Q5d Q0d L1d
        go_wp2_with fail
        clear c22 f22
        generalize w10.setCell ⟨b5, 22, none⟩ (.int .i64 Lm) = wb at *
        refine wp_region_noPanic ?_
        refine wp_region_any (by kernel_rfl) ?_
        have hw0 : Src.Left W0 wb wb.drew g a len cap zs := (Src.Left.refl L1e.out.di).drew
        have cp : ∀ w', Src.Left W0 wb w' g a len cap zs → w'.cell? ⟨b5, 22, none⟩ = some (.int .i64 Lm) := fun w' hl => cell_of_row _ b5 22 _ _ _ (hl.blk Q5e.out nb5)
        refine Inv.wpAny_inv (fun k => k == 10) [87, 88, 89, 90, 91, 92, 93, 94, 95, 96] (fun w' => Src.Left W0 wb w' g a len cap zs) (fun _ w1 w2 => w1.grownBy w2 (some g)) (fun k => ([fun v w => v = .pointer (some ⟨b5, 9, none⟩), fun v w => v = .pointer (some ⟨b5, 22, none⟩), fun v w => v = .pointer (some ⟨b5, 22, none⟩), fun v w => v = .int .i64 Lm, fun v w => v = .pointer (some ⟨g, 0, none⟩), fun v w => ∃ z : Int, v = .int .i64 z ∧ 0 ≤ z ∧ z < 60, fun v w => ∃ z : Int, v = .int .i64 z ∧ Lm ≤ z, fun v w => v = .pointer (some ⟨b5, 9, none⟩), fun v w => v = .pointer (some ⟨b5, 22, none⟩), fun v w => v = .pointer (some ⟨b5, 23, none⟩), fun v w => True] : List (Value → World → Prop)).getD k (fun _ _ => True)) _ (fun σ => by simp only [Inv.putAll, List.foldl_cons, List.foldl_nil, Act.put, List.setIfInBounds_toArray, List.set_cons_zero, List.set_cons_succ]; rfl) (by kernel_rfl) (by kernel_rfl) ?_ hw0 ?_ ?_ 1 #[true, true, true, true, true, true, true, true, true, true, false] (by kernel_rfl) (by kernel_rfl) ?_
        · intro j k v w1 w2 hjk hv hr
          rcases k with _ | k
          · exact hv
          rcases k with _ | k
          · exact hv
          rcases k with _ | k
          · exact hv
          rcases k with _ | k
          · exact hv
          rcases k with _ | k
          · exact hv
          rcases k with _ | k
          · exact hv
          rcases k with _ | k
          · exact hv
          rcases k with _ | k
          · exact hv
          rcases k with _ | k
          · exact hv
          rcases k with _ | k
          · exact hv
          rcases k with _ | k
          · exact hv
          · exact hv
        · intro k t hl hd
          rcases k with _ | k
          · exact absurd hl (by decide +kernel)
          rcases k with _ | k
          · exact absurd hl (by decide +kernel)
          rcases k with _ | k
          · exact absurd hl (by decide +kernel)
          rcases k with _ | k
          · exact absurd hl (by decide +kernel)
          rcases k with _ | k
          · exact absurd hl (by decide +kernel)
          rcases k with _ | k
          · exact absurd hl (by decide +kernel)
          rcases k with _ | k
          · exact absurd hl (by decide +kernel)
          rcases k with _ | k
          · exact absurd hl (by decide +kernel)
          rcases k with _ | k
          · exact absurd hl (by decide +kernel)
          rcases k with _ | k
          · exact absurd hl (by decide +kernel)
          rcases k with _ | k
          · exact absurd hl (by decide +kernel)
          · simp at hd
        · show Inv.Steps _ _ _ _ _ _ _ _ [0, 1, 2, 3, 4, 5, 6, 7, 8, 9]
          refine Inv.Steps.go (by decide) (by rfl) (fun σ wx hw hd K hK => ?_) ?_
          · simp only [List.getElem_toArray, List.getElem_cons_zero, List.getElem_cons_succ, Act.put, List.setIfInBounds_toArray, List.set_cons_zero, List.set_cons_succ] at hK ⊢
            go_simp
            exact hK.out _ _ hw (Src.grown_of_below (Below.refl _ _)) (rfl)
          refine Inv.Steps.go (by decide) (by rfl) (fun σ wx hw hd K hK => ?_) ?_
          · obtain e87 : (σ 87) = .pointer (some ⟨b5, 9, none⟩) := hd 0 (some 87) (by kernel_rfl) (by rfl)
            simp only [List.getElem_toArray, List.getElem_cons_zero, List.getElem_cons_succ, Act.put, List.setIfInBounds_toArray, List.set_cons_zero, List.set_cons_succ, e87] at hK ⊢
            go_simp
            exact hK.out _ _ hw (Src.grown_of_below (Below.refl _ _)) (rfl)
          refine Inv.Steps.go (by decide) (by rfl) (fun σ wx hw hd K hK => ?_) ?_
          · obtain e88 : (σ 88) = .pointer (some ⟨b5, 22, none⟩) := hd 1 (some 88) (by kernel_rfl) (by rfl)
            simp only [List.getElem_toArray, List.getElem_cons_zero, List.getElem_cons_succ, Act.put, List.setIfInBounds_toArray, List.set_cons_zero, List.set_cons_succ, e88] at hK ⊢
            go_simp
            exact hK.out _ _ hw (Src.grown_of_below (Below.refl _ _)) (rfl)
          refine Inv.Steps.go (by decide) (by rfl) (fun σ wx hw hd K hK => ?_) ?_
          · obtain e89 : (σ 89) = .pointer (some ⟨b5, 22, none⟩) := hd 2 (some 89) (by kernel_rfl) (by rfl)
            simp only [List.getElem_toArray, List.getElem_cons_zero, List.getElem_cons_succ, Act.put, List.setIfInBounds_toArray, List.set_cons_zero, List.set_cons_succ, e89] at hK ⊢
            have hc := cp wx hw
            go_simp
            exact hK.out _ _ hw (Src.grown_of_below (Below.refl _ _)) (rfl)
          refine Inv.Steps.go (by decide) (by rfl) (fun σ wx hw hd K hK => ?_) ?_
          · simp only [List.getElem_toArray, List.getElem_cons_zero, List.getElem_cons_succ, Act.put, List.setIfInBounds_toArray, List.set_cons_zero, List.set_cons_succ] at hK ⊢
            go_simp
            exact hK.out _ _ hw (Src.grown_of_below (Below.refl _ _)) (rfl)
          refine Inv.Steps.go (by decide) (by rfl) (fun σ wx hw hd K hK => ?_) ?_
          · obtain e91 : (σ 91) = .pointer (some ⟨g, 0, none⟩) := hd 4 (some 91) (by kernel_rfl) (by rfl)
            simp only [List.getElem_toArray, List.getElem_cons_zero, List.getElem_cons_succ, Act.put, List.setIfInBounds_toArray, List.set_cons_zero, List.set_cons_succ, e91] at hK ⊢
            go_simp
            go_at_call 9
            refine (Src.n_any 60 hw.di (by omega) (by omega)).mono ?_
            rintro e w1 ⟨⟨v, rfl, v0, v1⟩, hl⟩
            dsimp only
            exact hK.out _ _ (hw.trans hl) hl.far (⟨_, rfl, v0, v1⟩)
          refine Inv.Steps.go (by decide) (by rfl) (fun σ wx hw hd K hK => ?_) ?_
          · obtain e90 : (σ 90) = .int .i64 Lm := hd 3 (some 90) (by kernel_rfl) (by rfl)
            obtain ⟨z92, e92, y92, x92⟩ : ∃ z : Int, (σ 92) = .int .i64 z ∧ 0 ≤ z ∧ z < 60 := hd 5 (some 92) (by kernel_rfl) (by rfl)
            simp only [List.getElem_toArray, List.getElem_cons_zero, List.getElem_cons_succ, Act.put, List.setIfInBounds_toArray, List.set_cons_zero, List.set_cons_succ, e90, e92] at hK ⊢
            go_simp
            rw [IntWalk.i64_in (Lm + z92) (by omega)]
            exact hK.out _ _ hw (Src.grown_of_below (Below.refl _ _)) (⟨_, rfl, by omega⟩)
          refine Inv.Steps.go (by decide) (by rfl) (fun σ wx hw hd K hK => ?_) ?_
          · simp only [List.getElem_toArray, List.getElem_cons_zero, List.getElem_cons_succ, Act.put, List.setIfInBounds_toArray, List.set_cons_zero, List.set_cons_succ] at hK ⊢
            go_simp
            exact hK.out _ _ hw (Src.grown_of_below (Below.refl _ _)) (rfl)
          refine Inv.Steps.go (by decide) (by rfl) (fun σ wx hw hd K hK => ?_) ?_
          · obtain e94 : (σ 94) = .pointer (some ⟨b5, 9, none⟩) := hd 7 (some 94) (by kernel_rfl) (by rfl)
            simp only [List.getElem_toArray, List.getElem_cons_zero, List.getElem_cons_succ, Act.put, List.setIfInBounds_toArray, List.set_cons_zero, List.set_cons_succ, e94] at hK ⊢
            go_simp
            exact hK.out _ _ hw (Src.grown_of_below (Below.refl _ _)) (rfl)
          refine Inv.Steps.go (by decide) (by rfl) (fun σ wx hw hd K hK => ?_) ?_
          · obtain e95 : (σ 95) = .pointer (some ⟨b5, 22, none⟩) := hd 8 (some 95) (by kernel_rfl) (by rfl)
            simp only [List.getElem_toArray, List.getElem_cons_zero, List.getElem_cons_succ, Act.put, List.setIfInBounds_toArray, List.set_cons_zero, List.set_cons_succ, e95] at hK ⊢
            go_simp
            exact hK.out _ _ hw (Src.grown_of_below (Below.refl _ _)) (rfl)
          exact Inv.Steps.nil
        · intro σ wx hw hd
          obtain ⟨Hm, e93, hLH⟩ : ∃ z : Int, (σ 93) = .int .i64 z ∧ Lm ≤ z := hd 6 (some 93) (by rfl) (by rfl)
          obtain e96 : (σ 96) = .pointer (some ⟨b5, 23, none⟩) := hd 9 (some 96) (by rfl) (by rfl)
          have P2 := hw.blk Q5e.out nb5
          have P3 := hw.blk Q0e.out hne.out
          have c23 := cell_of_row wx b5 23 _ _ _ P2
          have f23 := frozen_of_row wx b5 23 _ _ P2
          refine Inv.one (i := 10) (by decide) (by kernel_rfl) (by rfl) (fun K hK => ?_)
          simp only [List.getElem_toArray, List.getElem_cons_zero, List.getElem_cons_succ, Act.put, List.setIfInBounds_toArray, List.set_cons_zero, List.set_cons_succ, e93, e96] at hK ⊢
          go_simp
          refine hK.out _ _ (Inv.done (by kernel_rfl) (NoPanic.normal ?_))
          clear hK K
          have Q5f : Hid ((wx.setCell ⟨b5, 23, none⟩ (.int .i64 Hm)).heap[b5]? = some (.cells #[.string s0, .string s1, .string s2, .string s3, .int .i64 n1, .int .i64 n2, .int .i64 n3, .int .i64 n4, .int .i64 n5, .slice (some ⟨gb, 0, none⟩) i cb, .int .i64 X, .int .i64 Y, .int .i64 Z, .int .i64 T, .int .i64 Mi, .int .i64 0, .int .i64 X, .int .i64 Y, .int .i64 Z, .int .i64 X, .int .i64 Y, .int .i64 Z, .int .i64 Lm, .int .i64 Hm, .int .i64 C] 45 (0, 0))) := Lib.hid ((heap_setCell_same wx b5 23 _ _ (.int .i64 Hm) P2).trans (by kernel_rfl))
          have Q0f := Lib.hid ((Below.heap_setCell wx ⟨b5, 23, none⟩ (.int .i64 Hm) w.heap.size (by show w.heap.size ≠ b5; omega)).trans P3)
          have L1f := Lib.hid (Src.Left.past H.out (L1e.out.trans hw) ((Below.refl w.heap.size wx).setCell (p := ⟨b5, 23, none⟩) (by show w.heap.size ≤ b5; omega) (.int .i64 Hm)))
          clear P2 P3 c23 f23 hw hd Q5e Q0e L1e hw0 cp
          generalize wx.setCell ⟨b5, 23, none⟩ (.int .i64 Hm) = wf at *
          go_wp2_with (first | ((with_reducible refine Mid.ldr 45 (.tmp 5) b5 45 #[.string s0, .string s1, .string s2, .string s3, .int .i64 n1, .int .i64 n2, .int .i64 n3, .int .i64 n4, .int .i64 n5, .slice (some ⟨gb, 0, none⟩) i cb, .int .i64 X, .int .i64 Y, .int .i64 Z, .int .i64 T, .int .i64 Mi, .int .i64 0, .int .i64 X, .int .i64 Y, .int .i64 Z, .int .i64 X, .int .i64 Y, .int .i64 Z, .int .i64 Lm, .int .i64 Hm, .int .i64 C] Q5f.out ?_ ?_ ?_ ?_ ?_ ?_); (· rfl); (· rfl); (· first | rfl | simp [Act.eval]); (· exact ⟨_, rfl, rfl⟩); (· kernel_rfl)) | ((with_reducible refine Mid.str 45 (.tmp 4) (.tmp 97) w.heap.size 45 #[.string ⟨#[]⟩, .string ⟨#[]⟩, .string ⟨#[]⟩, .string ⟨#[]⟩, .int .i64 0, .int .i64 0, .int .i64 0, .int .i64 0, .int .i64 0, .slice none 0 0, .int .i64 0, .int .i64 0, .int .i64 0, .int .i64 0, .int .i64 0, .int .i64 0, .int .i64 0, .int .i64 0, .int .i64 0, .int .i64 0, .int .i64 0, .int .i64 0, .int .i64 0, .int .i64 0, .int .i64 0] #[.string s0, .string s1, .string s2, .string s3, .int .i64 n1, .int .i64 n2, .int .i64 n3, .int .i64 n4, .int .i64 n5, .slice (some ⟨gb, 0, none⟩) i cb, .int .i64 X, .int .i64 Y, .int .i64 Z, .int .i64 T, .int .i64 Mi, .int .i64 0, .int .i64 X, .int .i64 Y, .int .i64 Z, .int .i64 X, .int .i64 Y, .int .i64 Z, .int .i64 Lm, .int .i64 Hm, .int .i64 C] Q0f.out ?_ ?_ ?_ ?_ ?_ ?_ ?_ ?_); (· rfl); (· rfl); (· first | rfl | simp [Act.eval]); (· first | rfl | simp [Act.eval]); (· kernel_rfl); (· rfl); (· simp [Value.oneCell'])))
          refine bodyPost_ret (results_cell_row (ty := 45) rfl _ _ w.heap.size 45 #[.string s0, .string s1, .string s2, .string s3, .int .i64 n1, .int .i64 n2, .int .i64 n3, .int .i64 n4, .int .i64 n5, .slice (some ⟨gb, 0, none⟩) i cb, .int .i64 X, .int .i64 Y, .int .i64 Z, .int .i64 T, .int .i64 Mi, .int .i64 0, .int .i64 X, .int .i64 Y, .int .i64 Z, .int .i64 X, .int .i64 Y, .int .i64 Z, .int .i64 Lm, .int .i64 Hm, .int .i64 C] _ _ rfl (setRow_heap _ _ _ _ _ _ Q0f.out) rfl ?_ rfl) rfl ?_
          · rfl
          exact ⟨⟨s0, s1, s2, s3, n1, n2, n3, n4, n5, some ⟨gb, 0, none⟩, i, cb, X, Y, Z, T, Mi, 0, X, Y, Z, X, Y, Z, Lm, Hm, C, rfl, ⟨by omega, by omega, by omega, by omega, by omega, by omega⟩, hT1, hT2, hLH⟩, Src.Left.past H.out L1f.out (Mid.below_row (Below.refl _ _) _ _ (Nat.le_refl _))⟩
      · obtain rfl : C = 0 := by omega
        go_wp2_with (first | ((with_reducible refine Mid.ldr 45 (.tmp 5) b5 45 #[.string s0, .string s1, .string s2, .string s3, .int .i64 n1, .int .i64 n2, .int .i64 n3, .int .i64 n4, .int .i64 n5, .slice (some ⟨gb, 0, none⟩) i cb, .int .i64 X, .int .i64 Y, .int .i64 Z, .int .i64 T, .int .i64 Mi, .int .i64 0, .int .i64 X, .int .i64 Y, .int .i64 Z, .int .i64 X, .int .i64 Y, .int .i64 Z, .int .i64 0, .int .i64 0, .int .i64 0] Q5d.out ?_ ?_ ?_ ?_ ?_ ?_); (· rfl); (· rfl); (· first | rfl | simp [Act.eval]); (· exact ⟨_, rfl, rfl⟩); (· kernel_rfl)) | ((with_reducible refine Mid.str 45 (.tmp 4) (.tmp 97) w.heap.size 45 #[.string ⟨#[]⟩, .string ⟨#[]⟩, .string ⟨#[]⟩, .string ⟨#[]⟩, .int .i64 0, .int .i64 0, .int .i64 0, .int .i64 0, .int .i64 0, .slice none 0 0, .int .i64 0, .int .i64 0, .int .i64 0, .int .i64 0, .int .i64 0, .int .i64 0, .int .i64 0, .int .i64 0, .int .i64 0, .int .i64 0, .int .i64 0, .int .i64 0, .int .i64 0, .int .i64 0, .int .i64 0] #[.string s0, .string s1, .string s2, .string s3, .int .i64 n1, .int .i64 n2, .int .i64 n3, .int .i64 n4, .int .i64 n5, .slice (some ⟨gb, 0, none⟩) i cb, .int .i64 X, .int .i64 Y, .int .i64 Z, .int .i64 T, .int .i64 Mi, .int .i64 0, .int .i64 X, .int .i64 Y, .int .i64 Z, .int .i64 X, .int .i64 Y, .int .i64 Z, .int .i64 0, .int .i64 0, .int .i64 0] Q0d.out ?_ ?_ ?_ ?_ ?_ ?_ ?_ ?_); (· rfl); (· rfl); (· first | rfl | simp [Act.eval]); (· first | rfl | simp [Act.eval]); (· kernel_rfl); (· rfl); (· simp [Value.oneCell'])))
        refine bodyPost_ret (results_cell_row (ty := 45) rfl _ _ w.heap.size 45 #[.string s0, .string s1, .string s2, .string s3, .int .i64 n1, .int .i64 n2, .int .i64 n3, .int .i64 n4, .int .i64 n5, .slice (some ⟨gb, 0, none⟩) i cb, .int .i64 X, .int .i64 Y, .int .i64 Z, .int .i64 T, .int .i64 Mi, .int .i64 0, .int .i64 X, .int .i64 Y, .int .i64 Z, .int .i64 X, .int .i64 Y, .int .i64 Z, .int .i64 0, .int .i64 0, .int .i64 0] _ _ rfl (setRow_heap _ _ _ _ _ _ Q0d.out) rfl ?_ rfl) rfl ?_
        · rfl
        exact ⟨⟨s0, s1, s2, s3, n1, n2, n3, n4, n5, some ⟨gb, 0, none⟩, i, cb, X, Y, Z, T, Mi, 0, X, Y, Z, X, Y, Z, 0, 0, 0, rfl, ⟨by omega, by omega, by omega, by omega, by omega, by omega⟩, hT1, hT2, Int.le_refl 0⟩, Src.Left.past H.out L1d.out (Mid.below_row (Below.refl _ _) _ _ (Nat.le_refl _))⟩
end Ru
end Go.Proofs.Yticjmblajloefaa
