/- slices.Equal, record.Same of any two records of a source. -/
import Derived.Test.YtojfnegogdllfaaRecQ
set_option linter.unusedVariables false
set_option linter.unusedSimpArgs false
namespace Go.Proofs.Ytojfnegogdllfaa
open Go.RowKit
namespace Rec
open Dice Sc
theorem take_snoc {xs : List Int} {k : Nat} (h : k < xs.length) : xs.take (k + 1) = xs.take k ++ [xs.getD k 0] := by
  rw [List.take_add_one, List.getElem?_eq_getElem h, List.getD_eq_getElem?_getD, List.getElem?_eq_getElem h]; rfl
set_option maxHeartbeats 2000000 in
theorem equal_gen {w : World} {b b' n n' c c' : Nat} {xs ys : List Int} (h : SR w b xs) (g : SR w b' ys) (hn : n = xs.length) (hn' : n' = ys.length) (n9 : n ≤ 1000) (n9' : n' ≤ 1000) :
    Calls Try.prog 30 #[.slice (some ⟨b, 0, none⟩) n c, .slice (some ⟨b', 0, none⟩) n' c'] w fun e w' => e = .returned (.bool (decide (xs = ys))) ∧ Below w.heap.size w w' := by
  obtain ⟨bv, hbv⟩ : ∃ bv, bv = decide (xs = ys) := ⟨_, rfl⟩
  rw [← hbv]
  by_cases hnn : n = n'
  · subst hnn
    have H3 := Lib.hid h
    have G3 := Lib.hid g
    have enn : ((n : Int) != (n : Int)) = false := by simp
    replace hn := Lib.hid hn
    replace hn' := Lib.hid hn'
    replace hbv := Lib.hid hbv
    clear h g
    go_enter Try.func30, Try.ntmps30
    go_wp2_with fail
    go_loopw [13] (fun i wr => ∃ k : Nat, k ≤ n ∧ i = .int .i64 k ∧ Hid (xs.take k = ys.take k) ∧ Hid (∃ m, wr = w.drewN m)) (fun i _ => n - (intOf i).toNat)
    case atStart => exact ⟨0, by omega, rfl, Lib.hid (by simp), Lib.hid ⟨0, rfl⟩⟩
    case round =>
      obtain ⟨k, hk, rfl, ht, hw⟩ := hrel
      obtain ⟨m, rfl⟩ := hw.out
      by_cases hlt : k < n
      · have kx : k < xs.length := by rw [← hn.out]; exact hlt
        have ky : k < ys.length := by rw [← hn'.out]; exact hlt
        have c1 := H3.out.2 k kx
        have c2 := G3.out.2 k ky
        have tx := Lib.hid (take_snoc kx)
        have ty := Lib.hid (take_snoc ky)
        generalize xs.getD k 0 = d at *
        generalize ys.getD k 0 = d' at *
        have kn : (k : Int) < n := by omega
        clear hw kx ky
        by_cases hdd : d = d'
        · subst hdd
          have edd : (d != d) = false := by simp
          go_wp2_with fail
          go_quiet (fail)
          go_wp2_with fail
          go_roundw
          case rel => exact ⟨k + 1, by omega, by go_num, Lib.hid (by rw [tx.out, ty.out, ht.out]), Lib.hid ⟨_, rfl⟩⟩
          case measure => simp [intOf]; omega
        · have edd : (d != d') = true := by simp [hdd]
          have hq : bv = false := by
            rw [hbv.out]
            refine decide_eq_false fun e => hdd ?_
            have t1 := tx.out
            rw [e, ty.out] at t1
            have t2 := (List.append_inj' t1 rfl).2
            simpa using t2.symm
          subst hq
          clear tx ty hdd
          go_wp2_with fail
          go_quiet (fail)
          go_wp2_with fail
          go_ret
          exact ⟨rfl, Buf.below_drewN (Buf.below_drewN (Below.refl _ _) _) _⟩
      · obtain rfl : k = n := by omega
        have hq : bv = true := by
          rw [hbv.out]
          have t := ht.out
          rw [List.take_of_length_le (by rw [← hn.out]; exact Nat.le_refl _), List.take_of_length_le (by rw [← hn'.out]; exact Nat.le_refl _)] at t
          exact decide_eq_true t
        subst hq
        clear hw ht
        go_wp2_with fail
        go_ret
        exact ⟨rfl, Buf.below_drewN (Below.refl _ _) _⟩
  · have enn : ((n : Int) != (n' : Int)) = true := by simp; omega
    have hq : bv = false := by
      rw [hbv]
      refine decide_eq_false fun e => hnn ?_
      rw [hn, hn', e]
    subst hq
    clear hbv hn hn' h g
    go_enter Try.func30, Try.ntmps30
    go_wp2_with fail
    go_ret
    exact ⟨rfl, Below.refl _ _⟩
section
variable {s0 s1 s2 s3 : List UInt8} {st fi num den er ru se st' fi' num' den' er' ru' se' : Int}
set_option maxHeartbeats 4000000 in
set_option maxRecDepth 100000 in
theorem same_gen {b n c b' n' c' : Nat} {xs ys : List Int} {w : World} (X : RX w b n c xs) (X' : RX w b' n' c' ys) :
    Calls Try.prog 16 #[.agg #[.string ⟨s0.toArray⟩, .string ⟨s1.toArray⟩, .string ⟨s2.toArray⟩, .string ⟨s3.toArray⟩, .int .i64 st, .int .i64 fi, .int .i64 num, .int .i64 den, .int .i64 er, .int .i64 ru, .int .i64 se, .slice (some ⟨b, 0, none⟩) n c], .agg #[.string ⟨s0.toArray⟩, .string ⟨s1.toArray⟩, .string ⟨s2.toArray⟩, .string ⟨s3.toArray⟩, .int .i64 st', .int .i64 fi', .int .i64 num', .int .i64 den', .int .i64 er', .int .i64 ru', .int .i64 se', .slice (some ⟨b', 0, none⟩) n' c']] w fun e w' => e = .returned (.bool (decide (st = st' ∧ fi = fi' ∧ num = num' ∧ den = den' ∧ er = er' ∧ ru = ru' ∧ se = se' ∧ xs = ys))) ∧ Below w.heap.size w w' := by
  obtain ⟨w0, hw0e⟩ : ∃ w0, w0 = (w.alloc (.cells #[.string ⟨s0.toArray⟩, .string ⟨s1.toArray⟩, .string ⟨s2.toArray⟩, .string ⟨s3.toArray⟩, .int .i64 st, .int .i64 fi, .int .i64 num, .int .i64 den, .int .i64 er, .int .i64 ru, .int .i64 se, .slice (some ⟨b, 0, none⟩) n c] 32)).alloc (.cells #[.string ⟨s0.toArray⟩, .string ⟨s1.toArray⟩, .string ⟨s2.toArray⟩, .string ⟨s3.toArray⟩, .int .i64 st', .int .i64 fi', .int .i64 num', .int .i64 den', .int .i64 er', .int .i64 ru', .int .i64 se', .slice (some ⟨b', 0, none⟩) n' c'] 32) := ⟨_, rfl⟩
  have eS : (w.alloc (.cells #[.string ⟨s0.toArray⟩, .string ⟨s1.toArray⟩, .string ⟨s2.toArray⟩, .string ⟨s3.toArray⟩, .int .i64 st, .int .i64 fi, .int .i64 num, .int .i64 den, .int .i64 er, .int .i64 ru, .int .i64 se, .slice (some ⟨b, 0, none⟩) n c] 32)).heap.size = w.heap.size + 1 := by simp
  have Y0 : Hid (Below w.heap.size w w0) := Lib.hid (by rw [hw0e]; exact (new_block _).alloc (by simp) _)
  have KA := Lib.hid (show w0.heap[w.heap.size]? = some (.cells #[.string ⟨s0.toArray⟩, .string ⟨s1.toArray⟩, .string ⟨s2.toArray⟩, .string ⟨s3.toArray⟩, .int .i64 st, .int .i64 fi, .int .i64 num, .int .i64 den, .int .i64 er, .int .i64 ru, .int .i64 se, .slice (some ⟨b, 0, none⟩) n c] 32 (0, 0)) by rw [hw0e]; exact (heap_alloc_old _ _ (by simp)).trans (heap_alloc_new w _))
  have KB := Lib.hid (show w0.heap[w.heap.size + 1]? = some (.cells #[.string ⟨s0.toArray⟩, .string ⟨s1.toArray⟩, .string ⟨s2.toArray⟩, .string ⟨s3.toArray⟩, .int .i64 st', .int .i64 fi', .int .i64 num', .int .i64 den', .int .i64 er', .int .i64 ru', .int .i64 se', .slice (some ⟨b', 0, none⟩) n' c'] 32 (0, 0)) by rw [hw0e, ← eS]; exact heap_alloc_new _ _)
  have SI := Lib.hid (equal_gen (c := c) (c' := c') (X.keep Y0.out).sr (X'.keep Y0.out).sr X.hn X'.hn X.h9 X'.h9)
  obtain ⟨bv, hbv⟩ : ∃ bv, bv = decide (st = st' ∧ fi = fi' ∧ num = num' ∧ den = den' ∧ er = er' ∧ ru = ru' ∧ se = se' ∧ xs = ys) := ⟨_, rfl⟩
  rw [← hbv]
  replace hbv := Lib.hid hbv
  obtain ⟨bq, hbq⟩ : ∃ bq, bq = decide (xs = ys) := ⟨_, rfl⟩
  rw [← hbq] at SI
  replace hbq := Lib.hid hbq
  clear X X'
  go_enter Try.func16, Try.ntmps16
  go_upto_region 1 with fail
  rw [← hw0e]
  clear hw0e eS
  obtain ⟨x0, x1, x2, x3, x4, x5, x6, x7, x8, x9, x10, x11⟩ := c12 KA.out
  obtain ⟨y0, y1, y2, y3, y4, y5, y6, y7, y8, y9, y10, y11⟩ := c12 KB.out
  clear KA KB
  by_cases h0 : st = st'
  · subst h0
    by_cases h1 : fi = fi'
    · subst h1
      by_cases h2 : num = num'
      · subst h2
        by_cases h3 : den = den'
        · subst h3
          by_cases h4 : er = er'
          · subst h4
            by_cases h5 : ru = ru'
            · subst h5
              by_cases h6 : se = se'
              · subst h6
                have hq : bv = bq := by rw [hbv.out, hbq.out]; simp
                subst hq
                go_wp2_with (go_at_call 30; with_reducible refine SI.out.mono ?_; rintro e w9 ⟨rfl, hc9⟩)
                go_ret
                exact ⟨rfl, Buf.then_ Y0.out hc9⟩
              · have hq : bv = false := by rw [hbv.out]; simp [h6]
                subst hq
                have e1 : (se == se') = false := by simp [h6]
                go_wp2_with fail
                go_ret
                exact ⟨rfl, Y0.out⟩
            · have hq : bv = false := by rw [hbv.out]; simp [h5]
              subst hq
              have e1 : (ru == ru') = false := by simp [h5]
              go_wp2_with fail
              go_ret
              exact ⟨rfl, Y0.out⟩
          · have hq : bv = false := by rw [hbv.out]; simp [h4]
            subst hq
            have e1 : (er == er') = false := by simp [h4]
            go_wp2_with fail
            go_ret
            exact ⟨rfl, Y0.out⟩
        · have hq : bv = false := by rw [hbv.out]; simp [h3]
          subst hq
          have e1 : (den == den') = false := by simp [h3]
          go_wp2_with fail
          go_ret
          exact ⟨rfl, Y0.out⟩
      · have hq : bv = false := by rw [hbv.out]; simp [h2]
        subst hq
        have e1 : (num == num') = false := by simp [h2]
        go_wp2_with fail
        go_ret
        exact ⟨rfl, Y0.out⟩
    · have hq : bv = false := by rw [hbv.out]; simp [h1]
      subst hq
      have e1 : (fi == fi') = false := by simp [h1]
      go_wp2_with fail
      go_ret
      exact ⟨rfl, Y0.out⟩
  · have hq : bv = false := by rw [hbv.out]; simp [h0]
    subst hq
    have e1 : (st == st') = false := by simp [h0]
    go_wp2_with fail
    go_ret
    exact ⟨rfl, Y0.out⟩
end
end Rec
end Go.Proofs.Ytojfnegogdllfaa
