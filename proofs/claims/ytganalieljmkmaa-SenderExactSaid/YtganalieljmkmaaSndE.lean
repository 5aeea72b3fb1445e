/- Senders that the dice make. -/
import Derived.Test.YtganalieljmkmaaSndD
import Derived.Test.YtganalieljmkmaaSndS
set_option linter.unusedVariables false
set_option linter.unusedSimpArgs false
namespace Go.Proofs.Ytganalieljmkmaa
open Go.RowKit Wi Dice
namespace Snd
theorem lblk {W w w' : World} {g : Nat} {a : Option Addr} {len cap : Nat} {zs : List Int} (l : Dice.Left W w w' g a len cap zs) {k : Nat} {o : Obj} (hk : w.heap[k]? = some o) (hne : k ≠ g) : w'.heap[k]? = some o :=
  (l.far.block k (Array.getElem?_eq_some_iff.1 hk).1 (by simpa using hne)).trans hk
/-- Strings in memory. -/
def Strs (w : World) (b : Nat) (ss : List ByteArray) : Prop := ∀ j, j < ss.length → w.cell? ⟨b, j, none⟩ = some (.string (ss.getD j ⟨#[]⟩))
theorem strs_alloc (w : World) (ss : List ByteArray) (t : TypeId) : Strs (w.alloc (.cells (ss.map Value.string).toArray t)) w.heap.size ss := by
  intro j hj
  refine (World.cell?_alloc_mark w _ t (0, 0) j).trans ?_
  simp [List.getD, hj]
theorem strs_kept {w w' : World} {b g : Nat} {ss : List ByteArray} (h : Strs w b ss) (hb : b ≠ g) (hl : b < w.heap.size) (hr : w.grownBy w' (some g)) : Strs w' b ss := fun j hj => (World.cell?_of_block (a := ⟨b, j, none⟩) (hr.block b hl (by simpa using hb))).trans (h j hj)
def LitS (g : Nat) (ss : List ByteArray) (v : Value) (w : World) : Prop := ∃ b, v = .slice (some ⟨b, 0, none⟩) ss.length ss.length ∧ b ≠ g ∧ b < w.heap.size ∧ Strs w b ss
theorem LitS.stab {g : Nat} {ss : List ByteArray} {v : Value} {w w' : World} (h : LitS g ss v w) (hr : w.grownBy w' (some g)) : LitS g ss v w' := by
  obtain ⟨b, h1, h2, h3, h4⟩ := h
  exact ⟨b, h1, h2, Nat.lt_of_lt_of_le h3 hr.size, strs_kept h4 h2 h3 hr⟩
theorem lit_small : ∀ q, q < 4 → (([⟨#[97]⟩, ⟨#[98, 99]⟩, ⟨#[]⟩, ⟨#[120, 121, 122]⟩] : List ByteArray).getD q ⟨#[]⟩).size ≤ 4064 := by decide
/-- What Push has returned. -/
def Res3 (sz f : Int) (B : Nat) (v : Value) (w : World) : Prop :=
  ∃ (a9 : Option Addr) (n9 c9 : Nat) (ms9 : List ByteArray) (f9 z9 : Int), v = .tuple #[.agg #[.int .i64 sz, .int .i64 f9, .slice a9 n9 c9], .int .i64 z9, .int .i64 0] ∧ Row B w a9 n9 c9 ms9 ∧ Good sz f9 n9 ms9 ∧ True ∧ Hid (n9 = ms9.length ∧ (n9 = 0 → a9 = none) ∧ f9 ≤ f + 1)
theorem row_far2 {B g : Nat} {w w' : World} {a : Option Addr} {n cap : Nat} {ms : List ByteArray} (h : Row B w a n cap ms) (hr : w.grownBy w' (some g)) (hg : g < B) : Row B w' a n cap ms := by
  refine ⟨h.1, h.2.imp id ?_⟩
  rintro ⟨b, off, e, h1, h2, h3, h4, h5⟩
  exact ⟨b, off, e, h1, h2, h3, Nat.lt_of_lt_of_le h4 hr.size, fun j hj => (World.cell?_of_block (a := ⟨b, off + j, none⟩) (hr.block b h4 (by simp; omega))).trans (h5 j hj)⟩
theorem Res3.stab {sz f : Int} {B g : Nat} {v : Value} {w w' : World} (h : Res3 sz f B v w) (hr : w.grownBy w' (some g)) (hg : g < B) : Res3 sz f B v w' := by
  obtain ⟨a9, n9, c9, ms9, f9, z9, h1, h2, h3⟩ := h
  exact ⟨a9, n9, c9, ms9, f9, z9, h1, row_far2 h2 hr hg, h3⟩
theorem getD_snoc_small {ms : List ByteArray} {d : ByteArray} {n : Nat} (hn : n = ms.length) (h : ∀ j, j < n → (ms.getD j ByteArray.empty).size ≤ 4064) (hd : d.size ≤ 4064) (j : Nat) (hj : j < n + 1) : ((ms ++ [d]).getD j ByteArray.empty).size ≤ 4064 := by
  by_cases e : j < n
  · have := h j e
    rwa [List.getD_eq_getElem?_getD, List.getElem?_append_left (by omega), ← List.getD_eq_getElem?_getD]
  · obtain rfl : j = ms.length := by omega
    simpa using hd
theorem res_of {sz f : Int} {n B : Nat} {ms ms9 : List ByteArray} {d : ByteArray} {w : World} {a9 : Option Addr} {n9 c9 : Nat} {f9 : Int} (gd : Good sz f n ms) (hd : d.size ≤ 4064) (hn : n = ms.length) (hf : f ≤ 900) (hr : Row B w a9 n9 c9 ms9)
    (h : ((n : Int) + 1 ≤ sz ∧ f9 = f ∧ ms9 = ms ++ [d]) ∨ ((n : Int) = sz ∧ f9 = f + 1 ∧ ms9 = (ms ++ [d]).drop 1)) : Res3 sz f B (.tuple #[.agg #[.int .i64 sz, .int .i64 f9, .slice a9 n9 c9], .int .i64 (f + n), .int .i64 0]) w := by
  have sm := getD_snoc_small hn gd.sm hd
  obtain ⟨s1, s2, g0, g1, le, _⟩ := gd
  have hr1 := hr.1
  refine ⟨a9, n9, c9, ms9, f9, _, rfl, hr, ?_, trivial, Lib.hid ⟨hr1, ?_, ?_⟩⟩
  · rcases h with ⟨h1, rfl, rfl⟩ | ⟨h1, rfl, rfl⟩
    · simp at hr1
      exact ⟨s1, s2, g0, g1, by omega, fun j hj => sm j (by omega)⟩
    · simp at hr1
      refine ⟨s1, s2, by omega, by omega, by omega, fun j hj => ?_⟩
      have := sm (j + 1) (by omega)
      rwa [show ((ms ++ [d]).drop 1).getD j ByteArray.empty = (ms ++ [d]).getD (j + 1) ByteArray.empty by simp [List.getD_eq_getElem?_getD, Nat.add_comm]]
  · intro h0
    rcases h with ⟨h1, _, rfl⟩ | ⟨h1, _, rfl⟩
    · simp at hr1; omega
    · simp at hr1; omega
  · rcases h with ⟨_, rfl, _⟩ | ⟨_, rfl, _⟩ <;> omega
set_option maxRecDepth 100000 in
set_option maxHeartbeats 8000000 in
theorem sender_any {W0 w : World} {g : Nat} {a : Option Addr} {len cap : Nat} {zs : List Int} (h : Di W0 w g a len cap zs) :
    Calls Try.prog 9 #[.pointer (some ⟨g, 0, none⟩)] w fun e w' => (∃ (sz f : Int) (a2 : Option Addr) (n c2 : Nat) (ms : List ByteArray), e = .returned (.agg #[.int .i64 sz, .int .i64 f, .slice a2 n c2]) ∧ Good sz f n ms ∧ f ≤ 8 ∧ Row w.heap.size w' a2 n c2 ms) ∧ Dice.Left W0 w w' g a len cap zs := by
  have H := Lib.hid h
  have hne : Hid (w.heap.size ≠ g) := Lib.hid (by have := h.lt; omega)
  have hlt0 := h.lt
  obtain ⟨w0, hw0⟩ : ∃ w0, w0 = w.alloc (.cells #[.int .i64 0, .int .i64 0, .slice none 0 0] 25) := ⟨_, rfl⟩
  have L0 := Lib.hid (show Dice.Left W0 w w0 g a len cap zs by rw [hw0]; exact (Dice.Left.refl h).below (new_block _))
  have P0 := Lib.hid (show w0.heap[w.heap.size]? = some (.cells #[.int .i64 0, .int .i64 0, .slice none 0 0] 25 (0, 0)) by rw [hw0]; exact heap_alloc_new w _)
  have z0 : w0.heap.size = w.heap.size + 1 := by rw [hw0]; simp
  have I1 : Hid (Dice.Ints (w0.alloc (.cells #[.int .i64 1, .int .i64 2, .int .i64 4, .int .i64 8] 3)) (w.heap.size + 1) [1, 2, 4, 8]) := Lib.hid (by rw [← z0]; simpa using Dice.ints_alloc w0 [1, 2, 4, 8] 3)
  clear h
  go_enter Try.func9, Try.ntmps9
  go_wp2_with fail
  rw [← hw0]
  clear hw0
  refine (Dice.pick_any (w.heap.size + 1) [1, 2, 4, 8] 4 4 (L0.out.below (new_block _)).di I1.out rfl (by omega) (by omega) (by omega) (by simp; omega)).mono ?_
  rintro e w1 ⟨⟨sz, rfl, hsz⟩, hl⟩
  replace P0 := Lib.hid (lblk hl (((new_block (w := w0) _).block _ (by omega)).trans P0.out) hne.out)
  replace L0 := Lib.hid ((L0.out.below (new_block _)).trans hl)
  clear hl I1
  simp only [List.mem_cons, List.not_mem_nil, or_false] at hsz
  have s1 : 1 ≤ sz := by omega
  have s2 : sz ≤ 256 := by omega
  clear hsz
  go_wp2_with fail
  refine (refnew_any sz s1 s2).mono ?_
  rintro e w2 ⟨rfl, hb⟩
  replace P0 := Lib.hid ((hb.block _ (Array.getElem?_eq_some_iff.1 P0.out).1).trans P0.out)
  replace L0 := Lib.hid (L0.out.below hb)
  clear hb
  have zz2 := L0.out.far.size
  have lt2 := L0.out.di.lt
  have h03 := (Array.getElem?_eq_some_iff.1 P0.out).1
  have P3 := Lib.hid (heap_alloc_new w2 (.cells #[.int .i64 sz, .int .i64 0, .slice none 0 0] 25))
  go_wp2_with fail
  replace P0 := Lib.hid (((new_block (w := w2) (.cells #[.int .i64 sz, .int .i64 0, .slice none 0 0] 25)).block _ h03).trans P0.out)
  replace L0 := Lib.hid (L0.out.below (new_block (.cells #[.int .i64 sz, .int .i64 0, .slice none 0 0] 25)))
  refine (Dice.next_any 9 L0.out.di (by omega) (by omega)).mono ?_
  rintro e w3 ⟨⟨m0, rfl, m1, m2⟩, hl⟩
  replace P0 := Lib.hid (lblk hl P0.out hne.out)
  replace P3 := Lib.hid (lblk hl P3.out (by omega))
  replace L0 := Lib.hid (L0.out.trans hl)
  clear hl
  generalize w2.heap.size = b3 at *
  have nb3 : b3 ≠ g := by omega
  have hgb3 : g < b3 + 1 := by omega
  obtain ⟨k, rfl⟩ := Int.eq_ofNat_of_zero_le m1
  have RW0 : Hid (Row (b3 + 1) w3 none 0 0 []) := Lib.hid ⟨rfl, .inl ⟨rfl, rfl, rfl⟩⟩
  have G0 : Hid (Good sz 0 0 []) := Lib.hid ⟨s1, s2, by omega, by omega, by omega, fun j hj => by omega⟩
  go_wp2_with fail
  go_loopw [5] (fun s5 wr => ∃ (m : Nat) (f : Int) (a2 : Option Addr) (n c2 : Nat) (ms : List ByteArray), s5 = .int .i64 (m : Int) ∧ f + m ≤ 8 ∧ Hid (n = ms.length) ∧ Hid (Good sz f n ms) ∧ Hid (n = 0 → a2 = none) ∧ Hid (Row (b3 + 1) wr a2 n c2 ms) ∧ Hid (wr.heap[b3]? = some (.cells #[.int .i64 sz, .int .i64 f, .slice a2 n c2] 25 (0, 0))) ∧ Hid (wr.heap[w.heap.size]? = some (.cells #[.int .i64 0, .int .i64 0, .slice none 0 0] 25 (0, 0))) ∧ Hid (Dice.Left W0 w wr g a len cap zs)) (fun s5 _ => (intOf s5).toNat)
  case atStart => exact ⟨k, 0, none, 0, 0, [], rfl, by omega, Lib.hid rfl, G0, Lib.hid (fun _ => rfl), RW0, P3, P0, L0⟩
  case round =>
    clear P0 P3 L0 RW0 G0
    obtain ⟨m, f, a2, n, c2, ms, rfl, hfm', hn, GD, hzz, RW, P3, P0, L⟩ := hrel
    have hb3r := (Array.getElem?_eq_some_iff.1 P3.out).1
    by_cases hlt : 0 < m
    · have hlt' : (0 : Int) < m := by omega
      have hfm : f ≤ 900 := by omega
      have hf0 := GD.out.f0
      go_wp2_with fail
      refine wp_region_noPanic ?_
      refine wp_region_any (by kernel_rfl) ?_
      have hw0 : Dice.Left W0 wr wr.drew g a len cap zs := Dice.Left.below (Dice.Left.refl L.out.di) ((Below.refl _ _).drew)
      refine Inv.wpAny_inv (fun k => k == 8 || k == 9 || k == 10 || k == 11) [20, 21, 22, 23, 24, 25, 26, 19] (fun w' => Dice.Left W0 wr w' g a len cap zs) (fun _ w1 w2 => w1.grownBy w2 (some g)) (fun k => ([fun v_ w_ => v_ = .agg #[.int .i64 sz, .int .i64 f, .slice a2 n c2], fun v_ w_ => LitS g [⟨#[97]⟩, ⟨#[98, 99]⟩, ⟨#[]⟩, ⟨#[120, 121, 122]⟩] v_ w_, fun v_ w_ => v_ = .pointer (some ⟨g, 0, none⟩), fun v_ w_ => ∃ q : Nat, v_ = .int .i64 (q : Nat) ∧ q < 4, fun v_ w_ => ∃ b q : Nat, v_ = .pointer (some ⟨b, q, none⟩) ∧ q < 4 ∧ b ≠ g ∧ b < w_.heap.size ∧ Strs w_ b [⟨#[97]⟩, ⟨#[98, 99]⟩, ⟨#[]⟩, ⟨#[120, 121, 122]⟩], fun v_ w_ => ∃ d : ByteArray, v_ = .string d ∧ d.size ≤ 4064, fun v_ w_ => Res3 sz f (b3 + 1) v_ w_, fun v_ w_ => Res3 sz f (b3 + 1) v_ w_, fun v_ w_ => True, fun v_ w_ => True, fun v_ w_ => True, fun v_ w_ => True] : List (Value → World → Prop)).getD k (fun _ _ => True)) _ (fun σ => by simp only [Inv.putAll, List.foldl_cons, List.foldl_nil, Act.put, List.setIfInBounds_toArray, List.set_cons_zero, List.set_cons_succ]; rfl) (by kernel_rfl) (by kernel_rfl) ?_ hw0 ?_ ?_ 4 #[true, true, true, true, true, true, true, true, false, false, false, false] (by kernel_rfl) (by kernel_rfl) ?_
      · intro j k v w1 w2 hjk hv hr
        rcases k with _ | k
        · exact hv
        rcases k with _ | k
        · exact LitS.stab hv hr
        rcases k with _ | k
        · exact hv
        rcases k with _ | k
        · exact hv
        rcases k with _ | k
        · exact (by obtain ⟨b, q, h1, h2, h3, h4, h5⟩ := hv; exact ⟨b, q, h1, h2, h3, Nat.lt_of_lt_of_le h4 hr.size, strs_kept h5 h3 h4 hr⟩)
        rcases k with _ | k
        · exact hv
        rcases k with _ | k
        · exact Res3.stab hv hr (by omega)
        rcases k with _ | k
        · exact Res3.stab hv hr (by omega)
        rcases k with _ | k
        · exact hv
        rcases k with _ | k
        · exact hv
        rcases k with _ | k
        · exact hv
        rcases k with _ | k
        · exact hv
        · exact hv
      · intro k t hl hd
        rcases k with _ | k
        · exact absurd hl (by decide +kernel)
        rcases k with _ | k
        · exact absurd hl (by decide +kernel)
        rcases k with _ | k
        · exact absurd hl (by decide +kernel)
        rcases k with _ | k
        · exact absurd hl (by decide +kernel)
        rcases k with _ | k
        · exact absurd hl (by decide +kernel)
        rcases k with _ | k
        · exact absurd hl (by decide +kernel)
        rcases k with _ | k
        · exact absurd hl (by decide +kernel)
        rcases k with _ | k
        · exact absurd hl (by decide +kernel)
        rcases k with _ | k
        · exact absurd hl (by decide +kernel)
        rcases k with _ | k
        · exact absurd hl (by decide +kernel)
        rcases k with _ | k
        · exact absurd hl (by decide +kernel)
        rcases k with _ | k
        · exact absurd hl (by decide +kernel)
        · simp at hd
      · show Inv.Steps _ _ _ _ _ _ _ _ [0, 1, 2, 3, 4, 5, 6, 7]
        refine Inv.Steps.go (by decide) (by rfl) (fun σ wx hw hd K hK => ?_) ?_
        · simp only [List.getElem_toArray, List.getElem_cons_zero, List.getElem_cons_succ, Act.put, List.setIfInBounds_toArray, List.set_cons_zero, List.set_cons_succ] at hK ⊢
          obtain ⟨k0, k1, k2⟩ := cells3 (lblk hw P3.out nb3)
          go_simp
          exact hK.out _ _ hw (grown_of_below (Below.refl _ _)) (rfl)
        refine Inv.Steps.go (by decide) (by rfl) (fun σ wx hw hd K hK => ?_) ?_
        · simp only [List.getElem_toArray, List.getElem_cons_zero, List.getElem_cons_succ, Act.put, List.setIfInBounds_toArray, List.set_cons_zero, List.set_cons_succ] at hK ⊢
          have J := strs_alloc wx [⟨#[97]⟩, ⟨#[98, 99]⟩, ⟨#[]⟩, ⟨#[120, 121, 122]⟩] 9
          have hne := hw.di.lt
          go_simp
          exact hK.out _ _ (Dice.Left.below hw (new_block _)) (grown_of_below (new_block (w := wx) _) : World.grownBy wx _ (some g)) (⟨wx.heap.size, rfl, by omega, by simp, by simpa using J⟩)
        refine Inv.Steps.go (by decide) (by rfl) (fun σ wx hw hd K hK => ?_) ?_
        · simp only [List.getElem_toArray, List.getElem_cons_zero, List.getElem_cons_succ, Act.put, List.setIfInBounds_toArray, List.set_cons_zero, List.set_cons_succ] at hK ⊢
          go_simp
          exact hK.out _ _ hw (grown_of_below (Below.refl _ _)) (rfl)
        refine Inv.Steps.go (by decide) (by rfl) (fun σ wx hw hd K hK => ?_) ?_
        · obtain e22 : (σ 22) = .pointer (some ⟨g, 0, none⟩) := hd 2 (some 22) (by kernel_rfl) (by rfl)
          simp only [List.getElem_toArray, List.getElem_cons_zero, List.getElem_cons_succ, Act.put, List.setIfInBounds_toArray, List.set_cons_zero, List.set_cons_succ, e22] at hK ⊢
          go_simp
          go_at_call 10
          refine (Dice.next_any 4 hw.di (by omega) (by omega)).mono ?_
          rintro e w1 ⟨⟨v, rfl, v0, v1⟩, hl⟩
          obtain ⟨q, rfl⟩ := Int.eq_ofNat_of_zero_le v0
          dsimp only
          exact hK.out _ _ (hw.trans hl) hl.far (⟨q, rfl, by omega⟩)
        refine Inv.Steps.go (by decide) (by rfl) (fun σ wx hw hd K hK => ?_) ?_
        · obtain ⟨b21, e21, n21, l21, i21⟩ : LitS g [⟨#[97]⟩, ⟨#[98, 99]⟩, ⟨#[]⟩, ⟨#[120, 121, 122]⟩] (σ 21) wx := hd 1 (some 21) (by kernel_rfl) (by rfl)
          obtain ⟨q23, e23, l23⟩ : ∃ q : Nat, (σ 23) = .int .i64 (q : Nat) ∧ q < 4 := hd 3 (some 23) (by kernel_rfl) (by rfl)
          simp only [List.getElem_toArray, List.getElem_cons_zero, List.getElem_cons_succ, Act.put, List.setIfInBounds_toArray, List.set_cons_zero, List.set_cons_succ, e21, e23] at hK ⊢
          have hq : (q23 : Int) < 4 := by omega
          go_simp
          exact hK.out _ _ hw (grown_of_below (Below.refl _ _)) (⟨b21, q23, rfl, l23, n21, l21, i21⟩)
        refine Inv.Steps.go (by decide) (by rfl) (fun σ wx hw hd K hK => ?_) ?_
        · obtain ⟨b24, q24, e24, l24, n24, s24, i24⟩ : ∃ b q : Nat, (σ 24) = .pointer (some ⟨b, q, none⟩) ∧ q < 4 ∧ b ≠ g ∧ b < wx.heap.size ∧ Strs wx b [⟨#[97]⟩, ⟨#[98, 99]⟩, ⟨#[]⟩, ⟨#[120, 121, 122]⟩] := hd 4 (some 24) (by kernel_rfl) (by rfl)
          simp only [List.getElem_toArray, List.getElem_cons_zero, List.getElem_cons_succ, Act.put, List.setIfInBounds_toArray, List.set_cons_zero, List.set_cons_succ, e24] at hK ⊢
          have hc := i24 q24 (by simpa using l24)
          have hz := lit_small q24 l24
          generalize ([⟨#[97]⟩, ⟨#[98, 99]⟩, ⟨#[]⟩, ⟨#[120, 121, 122]⟩] : List ByteArray).getD q24 ⟨#[]⟩ = dd at hc hz
          go_simp
          exact hK.out _ _ hw (grown_of_below (Below.refl _ _)) (⟨dd, rfl, hz⟩)
        refine Inv.Steps.go (by decide) (by rfl) (fun σ wx hw hd K hK => ?_) ?_
        · obtain e20 : (σ 20) = .agg #[.int .i64 sz, .int .i64 f, .slice a2 n c2] := hd 0 (some 20) (by kernel_rfl) (by rfl)
          obtain ⟨d25, e25, l25⟩ : ∃ d : ByteArray, (σ 25) = .string d ∧ d.size ≤ 4064 := hd 5 (some 25) (by kernel_rfl) (by rfl)
          simp only [List.getElem_toArray, List.getElem_cons_zero, List.getElem_cons_succ, Act.put, List.setIfInBounds_toArray, List.set_cons_zero, List.set_cons_succ, e20, e25] at hK ⊢
          go_simp
          go_at_call 13
          have hszx := hw.far.size
          refine (refpush_any sz f d25 GD.out l25 (row_far2 RW.out hw.far hgb3) hzz.out).mono ?_
          rintro e w1 ⟨⟨a9, n9, c9, ms9, f9, rfl, r9, h9⟩, hb⟩
          dsimp only
          exact hK.out _ _ (Dice.Left.below hw hb) (grown_of_below hb) (res_of GD.out l25 hn.out hfm (row_mono r9 (by omega)) h9)
        refine Inv.Steps.go (by decide) (by rfl) (fun σ wx hw hd K hK => ?_) ?_
        · obtain ⟨a9, n9, c9, ms9, f9, z9, e26, r26, g26, h26, k26⟩ : Res3 sz f (b3 + 1) (σ 26) wx := hd 6 (some 26) (by kernel_rfl) (by rfl)
          simp only [List.getElem_toArray, List.getElem_cons_zero, List.getElem_cons_succ, Act.put, List.setIfInBounds_toArray, List.set_cons_zero, List.set_cons_succ, e26] at hK ⊢
          go_simp
          exact hK.out _ _ hw (grown_of_below (Below.refl _ _)) (⟨a9, n9, c9, ms9, f9, z9, rfl, r26, g26, h26, k26⟩)
        exact Inv.Steps.nil
      · intro σ wx hw hd
        obtain ⟨a9, n9, c9, ms9, f9, z9, e19, r19, g19, h19, k19⟩ : Res3 sz f (b3 + 1) (σ 19) wx := hd 7 (some 19) (by rfl) (by rfl)
        simp only [e19]
        refine Inv.take (i := 8) (v := .agg #[.int .i64 sz, .int .i64 f9, .slice a9 n9 c9]) (by decide) rfl (by kernel_rfl) (by kernel_rfl) (by kernel_rfl) (fun _ _ _ h => h) (by rfl) (fun w' => ?_) ?_
        · simp only [List.getElem_toArray, List.getElem_cons_zero, List.getElem_cons_succ]
          go_simp
        try simp only [Act.put, List.setIfInBounds_toArray, List.set_cons_zero, List.set_cons_succ]
        refine Inv.take (i := 9) (v := .int .i64 z9) (by decide) rfl (by kernel_rfl) (by kernel_rfl) (by kernel_rfl) (fun _ _ _ h => h) (by rfl) (fun w' => ?_) ?_
        · simp only [List.getElem_toArray, List.getElem_cons_zero, List.getElem_cons_succ]
          go_simp
        try simp only [Act.put, List.setIfInBounds_toArray, List.set_cons_zero, List.set_cons_succ]
        refine Inv.take (i := 10) (v := .int .i64 0) (by decide) rfl (by kernel_rfl) (by kernel_rfl) (by kernel_rfl) (fun _ _ _ h => h) (by rfl) (fun w' => ?_) ?_
        · simp only [List.getElem_toArray, List.getElem_cons_zero, List.getElem_cons_succ]
          go_simp
        try simp only [Act.put, List.setIfInBounds_toArray, List.set_cons_zero, List.set_cons_succ]
        have P3x := lblk hw P3.out nb3
        obtain ⟨k0, k1, k2⟩ := cells3 P3x
        obtain ⟨l0, l1, l2⟩ := free3 P3x
        refine Inv.one (i := 11) (by decide) (by kernel_rfl) (by rfl) (fun K hK => ?_)
        simp only [List.getElem_toArray, List.getElem_cons_zero, List.getElem_cons_succ, Act.put, List.setIfInBounds_toArray, List.set_cons_zero, List.set_cons_succ] at hK ⊢
        go_simp
        refine hK.out _ _ (Inv.done (by kernel_rfl) (NoPanic.normal ?_))
        clear hK K
        have Q3 := Lib.hid (st3b P3x (.int .i64 sz) (.int .i64 f9) (.slice a9 n9 c9))
        have ne3 : w.heap.size ≠ b3 := by omega
        have Q0 := Lib.hid ((Below.heap_setCell _ ⟨b3, 2, none⟩ (.slice a9 n9 c9) w.heap.size ne3).trans ((Below.heap_setCell _ ⟨b3, 1, none⟩ (.int .i64 f9) w.heap.size ne3).trans ((Below.heap_setCell wx ⟨b3, 0, none⟩ (.int .i64 sz) w.heap.size ne3).trans (lblk hw P0.out hne.out))))
        have LX := Lib.hid (Dice.Left.past H.out (L.out.trans hw) ((((Below.refl w.heap.size wx).setCell (p := ⟨b3, 0, none⟩) (by show w.heap.size ≤ b3; omega) (.int .i64 sz)).setCell (p := ⟨b3, 1, none⟩) (by show w.heap.size ≤ b3; omega) (.int .i64 f9)).setCell (p := ⟨b3, 2, none⟩) (by show w.heap.size ≤ b3; omega) (.slice a9 n9 c9)))
        have RX := Lib.hid (row_far (b := b3) (row_far (b := b3) (row_far (b := b3) r19 (by omega) 0 (.int .i64 sz)) (by omega) 1 (.int .i64 f9)) (by omega) 2 (.slice a9 n9 c9))
        clear P3x k0 k1 k2 l0 l1 l2 hw hd e19 r19
        generalize ((wx.setCell ⟨b3, 0, none⟩ (.int .i64 sz)).setCell ⟨b3, 1, none⟩ (.int .i64 f9)).setCell ⟨b3, 2, none⟩ (.slice a9 n9 c9) = w9 at *
        obtain ⟨m1, rfl⟩ : ∃ m1, m = m1 + 1 := ⟨m - 1, by omega⟩
        obtain ⟨hm9, hz9, hf9⟩ := k19.out
        clear k19
        replace g19 := Lib.hid g19
        replace hz9 := Lib.hid hz9
        replace hm9 := Lib.hid hm9
        go_wp2_with fail
        go_roundw
        case rel => exact ⟨m1, f9, a9, n9, c9, ms9, by go_num, by omega, hm9, g19, hz9, RX, Q3, Q0, LX⟩
        case measure => simp [intOf]
    · obtain rfl : m = 0 := by omega
      obtain ⟨x0, x1, x2⟩ := cells3 P3.out
      obtain ⟨y0, y1, y2⟩ := cells3 P0.out
      obtain ⟨u0, u1, u2⟩ := free3 P0.out
      have ne0 : w.heap.size ≠ b3 := by omega
      have RX := Lib.hid (row_mono (row_far (b := w.heap.size) (row_far (b := w.heap.size) (row_far RW.out (b := w.heap.size) (by omega) 0 (.int .i64 sz)) (by omega) 1 (.int .i64 f)) (by omega) 2 (.slice a2 n c2)) (B' := w.heap.size) (by omega))
      go_wp2
      exact bodyPost_ret (results_cell_row rfl _ _ w.heap.size _ _ _ _ rfl (st3b P0.out _ _ _) rfl (by rfl) rfl) rfl ⟨⟨sz, f, a2, n, c2, ms, rfl, GD.out, by omega, RX.out⟩, Dice.Left.past H.out L.out ((((Below.refl w.heap.size wr).setCell (p := ⟨w.heap.size, 0, none⟩) (Nat.le_refl _) _).setCell (p := ⟨w.heap.size, 1, none⟩) (Nat.le_refl _) _).setCell (p := ⟨w.heap.size, 2, none⟩) (Nat.le_refl _) _)⟩
end Snd
end Go.Proofs.Ytganalieljmkmaa
