/- Dice.Nat. -/
import Derived.Test.YtaaeegjinblpiaaDoorNtxD
set_option linter.unusedVariables false
set_option linter.unusedSimpArgs false
namespace Go.Proofs.YtaaeegjinblpiaaDoor
open Go.RowKit Dice
namespace Nt
theorem own_left {W w w' : World} {g : Nat} {a : Option Addr} {len cap : Nat} {zs : List Int} {B : Nat} {v : Value} {xs : List Value} (h : Buf.Own B w v xs) (l : Dice.Left W w w' g a len cap zs) (hg : g < B) : Buf.Own B w' v xs := by
  rcases h with ⟨e, e'⟩ | ⟨b, c, e, hb'⟩
  · exact .inl ⟨e, e'⟩
  · exact .inr ⟨b, c, e, hb'.of_block (l.far.block b hb'.lt (by intro e2; have := Option.some.inj e2; have := hb'.base; omega)) l.far.size⟩
theorem nr_own {B : Nat} {w : World} {v : Value} {L : List Int} (h : Buf.Own B w v (iv L)) (h65 : L.length ≤ 65) : ∃ (a : Option Addr) (n c : Nat), v = .slice a n c ∧ Nr w a n c L := by
  rcases id h with ⟨rfl, e⟩ | ⟨g, cap, rfl, b⟩
  · have : L = [] := by cases L with
      | nil => rfl
      | cons x l => simp [iv] at e
    subst this
    exact ⟨none, 0, 0, rfl, rfl, Nat.le_refl _, by omega, fun h => absurd h (Nat.lt_irrefl 0)⟩
  · refine ⟨some ⟨g, 0, none⟩, _, cap, rfl, nr_of_own h (iv_length L) (by rw [iv_length]; exact h65) ?_⟩
    exact b.le
set_option maxHeartbeats 4000000 in
set_option maxRecDepth 100000 in
theorem nat_any {W w : World} {g : Nat} {a : Option Addr} {len cap : Nat} {zs : List Int} (N : Nat) (h : Di W w g a len cap zs) (h9 : N ≤ 20) :
    Calls Tryd.prog 15 #[.pointer (some ⟨g, 0, none⟩), .int .i64 N] w fun e w' => (∃ (a' : Option Addr) (n' c' : Nat) (L : List Int), e = .returned (.slice a' n' c') ∧ Nr w' a' n' c' L ∧ Limbs L ∧ n' ≤ N) ∧ Dice.Left W w w' g a len cap zs := by
  have H := Lib.hid h
  have hw1 : IntKind.i64.wrap ((N : Int) + 1) = (N : Int) + 1 := IntWalk.i64_in _ (by omega)
  have hgw := h.lt
  obtain ⟨i0, hi, hz0, hz1, hz2⟩ := info_parts infoI
  clear h
  go_enter Tryd.func15, Tryd.ntmps15
  go_wp2_with fail
  refine (next_any ((N : Int) + 1) H.out (by omega) (by omega)).mono ?_
  rintro e w1 ⟨⟨v, rfl, v0, v1⟩, hl⟩
  obtain ⟨K, rfl⟩ := Int.eq_ofNat_of_zero_le v0
  have HL0 := Lib.hid hl
  clear hl
  go_wp2_with fail
  go_loopw [5, 6] (fun v i wr => ∃ (x : World) (u : Value) (k : Nat) (L : List Int), x = wr ∧ u = v ∧ i = .int .i64 (k : Int) ∧ L.length + k ≤ N ∧ Hid (Rg L) ∧ Hid (Buf.Own w.heap.size x u (iv L)) ∧ Hid (Dice.Left W w x g a len cap zs)) (fun _ i _ => (intOf i).toNat)
  case atStart => exact ⟨_, _, K, [], rfl, rfl, rfl, by show 0 + K ≤ N; omega, Lib.hid (fun x hx => by cases hx), Lib.hid (Buf.Own.nil _ _), HL0⟩
  case round =>
    clear HL0
    obtain ⟨wr, v, k, L, rfl, rfl, rfl, hLk, HR, HO, HL⟩ := hrel
    by_cases h0 : 0 < k
    · obtain ⟨j, hj⟩ : ∃ j, k = j + 1 := ⟨k - 1, by omega⟩
      have h0I : (0 : Int) < k := by omega
      have hkj : (k : Int) - 1 = (j : Int) := by omega
      replace hj := Lib.hid hj
      have hvl : L.length ≤ 20 := by omega
      go_wp2_with fail
      refine (next_any 1000 HL.out.di (by omega) (by omega)).mono ?_
      rintro e w2 ⟨⟨z, rfl, z0, z1⟩, l2⟩
      have L2 := Lib.hid (HL.out.trans l2)
      have O2 := Lib.hid (own_left HO.out l2 hgw)
      clear l2
      have IN := Lib.hid (ints_alloc w2 [0, 1, 1073741823, z, 536870912] 3)
      have D3 := Lib.hid (L2.out.di.below (new_block (.cells #[.int .i64 0, .int .i64 1, .int .i64 1073741823, .int .i64 z, .int .i64 536870912] 3)))
      have g2 := L2.out.di.lt
      have PK := Lib.hid (pick_any w2.heap.size [0, 1, 1073741823, z, 536870912] 5 5 D3.out IN.out rfl (by omega) (by omega) (by omega) (by simp))
      have L3 := Lib.hid (L2.out.below (new_block (.cells #[.int .i64 0, .int .i64 1, .int .i64 1073741823, .int .i64 z, .int .i64 536870912] 3)))
      have O3 := Lib.hid (O2.out.below (new_block (.cells #[.int .i64 0, .int .i64 1, .int .i64 1073741823, .int .i64 z, .int .i64 536870912] 3)))
      go_wp2_with fail
      refine PK.out.mono ?_
      rintro e w3 ⟨⟨y, rfl, hy⟩, l3⟩
      have L4 := Lib.hid (L3.out.trans l3)
      have O4 := Lib.hid (own_left O3.out l3 hgw)
      have yr : 0 ≤ y ∧ y ≤ 1073741823 := by
        simp only [List.mem_cons, List.not_mem_nil, or_false] at hy
        omega
      have hws : w.heap.size ≤ w3.heap.size := L4.out.far.size
      clear l3 PK IN D3 L2 O2 L3 O3 hy
      go_wp2_with (at_builtin; refine Buf.wpList_append_one rfl _ _ 25 rfl 3 _ i0 (.int .i64 0) 8 Tryd.underlying25 hi hz0 hz1 hz2 rfl rfl O4.out (Below.refl _ _) hws (.int .i64 y) rfl rfl (by unfold maxLen; rw [iv_length]; omega) (by rw [iv_length]; omega) ?_; intro v' w' hown' hb' _; have L5 := Lib.hid (Dice.Left.past H.out L4.out hb'); have O5 : Hid (Buf.Own w.heap.size w' v' (iv (L ++ [y]))) := Lib.hid (by unfold iv; rw [List.map_append]; exact hown'); clear hown' hb')
      go_roundw
      case rel => exact ⟨_, _, j, L ++ [y], rfl, rfl, by go_num, by simp; have := hj.out; omega, Lib.hid (fun x hx => by rcases List.mem_append.1 hx with hx | hx; (exact HR.out x hx); (rw [List.mem_singleton] at hx; rw [hx]; exact yr)), O5, L5⟩
      case measure => simp [intOf]; have := hj.out; omega
    · obtain rfl : k = 0 := by omega
      have e0 : ((0 : Nat) : Int) = 0 := rfl
      rw [e0]
      obtain ⟨a2, n, c, rfl, NR⟩ := nr_own HO.out (by omega)
      have hnc := NR.nc
      have hl := Lib.hid NR.len
      have hnN : n ≤ N := by have := hl.out; omega
      replace NR := Lib.hid NR
      clear HO
      go_wp2_with fail
      go_loopw [5] (fun v w2 => ∃ k : Nat, k ≤ n ∧ v = .slice a2 k c ∧ w2 = wr ∧ Hid (∀ x ∈ L.drop k, x = 0)) (fun v _ => match v with | .slice _ k _ => k | _ => 0)
      case atStart => exact ⟨n, Nat.le_refl _, rfl, rfl, Lib.hid (by rw [hl.out, List.drop_length]; intro x hx; cases hx)⟩
      case round =>
        obtain ⟨k, hk, rfl, rfl, hz⟩ := hrel
        by_cases h0 : k = 0
        · subst h0
          have ht := tr_end L 0 (by omega) hz.out (Or.inl rfl)
          have NT := NR.out.take 0 (by omega)
          rw [← ht] at NT
          replace NT := Lib.hid NT
          clear hz ht
          go_wp2_with fail
          go_ret
          exact ⟨⟨_, _, _, _, rfl, NT.out, tr_limbs L HR.out, by omega⟩, HL.out⟩
        · obtain ⟨j, rfl⟩ : ∃ j, k = j + 1 := ⟨k - 1, by omega⟩
          obtain ⟨gb, rfl, hg, hc⟩ := NR.out.at_ (by omega)
          obtain ⟨d, hd⟩ : ∃ y, L[j]? = some y := ⟨L[j]'(by rw [← hl.out]; omega), List.getElem?_eq_getElem _⟩
          have c1 := hc _ _ hd
          obtain ⟨k, hkj⟩ : ∃ k, k = j + 1 := ⟨_, rfl⟩
          rw [← hkj]
          rw [← hkj] at hk hz
          have k0 : (0 : Int) < k := by omega
          have kj : (k : Int) - 1 = (j : Int) := by omega
          have jk : (j : Int) < k := by omega
          have jk' : (j : Int) ≤ k := by omega
          have jc : j ≤ c := by omega
          have jN : j ≤ k := by omega
          by_cases hd0 : d = 0
          · subst hd0
            have hz2 : Hid (∀ x ∈ L.drop j, x = 0) := Lib.hid (by
              intro x hx
              obtain ⟨hj, e⟩ := List.getElem?_eq_some_iff.1 hd
              rw [List.drop_eq_getElem_cons hj, e] at hx
              rcases List.mem_cons.1 hx with rfl | hx
              · rfl
              · exact hz.out x (by rw [hkj]; exact hx))
            replace hd := Lib.hid hd
            replace hkj := Lib.hid hkj
            clear hz hc
            go_wp2_with fail
            go_roundw
            case rel => exact ⟨j, by have := hkj.out; omega, rfl, trivial, hz2⟩
            case measure => show j < k; have := hkj.out; omega
          · have ht := tr_end L k (by rw [← hl.out]; omega) hz.out (Or.inr ⟨d, by rw [hkj]; exact hd, hd0⟩)
            have NT := NR.out.take k hk
            rw [← ht] at NT
            replace NT := Lib.hid NT
            have dne : (d == 0) = false := beq_eq_false_iff_ne.2 hd0
            replace hd := Lib.hid hd
            replace hkj := Lib.hid hkj
            clear hz ht hc
            go_wp2_with fail
            go_ret
            exact ⟨⟨_, _, _, _, rfl, NT.out, tr_limbs L HR.out, by omega⟩, HL.out⟩
end Nt
end Go.Proofs.YtaaeegjinblpiaaDoor
