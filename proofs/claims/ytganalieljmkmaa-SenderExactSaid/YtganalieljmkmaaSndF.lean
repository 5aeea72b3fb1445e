/- Contract of sender.Answer. -/
import Derived.Test.YtganalieljmkmaaSndE
set_option linter.unusedVariables false
set_option linter.unusedSimpArgs false
namespace Go.Proofs.Ytganalieljmkmaa
open Go.RowKit Wi Dice
namespace Snd
/-- The numbers from f on, i of them, that are in one of the spans. -/
def filt (l : List (Int × Int)) (f : Int) (i : Nat) : List Int := ((List.range i).map fun k : Nat => f + (k : Int)).filter (Sp.hasB l)
theorem filt_succ (l : List (Int × Int)) (f : Int) (i : Nat) : filt l f (i + 1) = filt l f i ++ (if Sp.hasB l (f + i) then [f + i] else []) := by
  unfold filt
  rw [List.range_succ, List.map_append, List.filter_append]
  congr 1
  cases h : Sp.hasB l (f + i) <;> simp [h]
theorem filt_yes (l : List (Int × Int)) (f : Int) (i : Nat) (h : Sp.hasB l (f + i) = true) : filt l f (i + 1) = filt l f i ++ [f + i] := by rw [filt_succ, h]; rfl
theorem filt_no (l : List (Int × Int)) (f : Int) (i : Nat) (h : Sp.hasB l (f + i) = false) : filt l f (i + 1) = filt l f i := by rw [filt_succ, h]; simp
theorem filt_len (l : List (Int × Int)) (f : Int) (i : Nat) : (filt l f i).length ≤ i := by
  refine Nat.le_trans (List.length_filter_le _ _) ?_
  simp
theorem filt_pre (l : List (Int × Int)) (f : Int) (i : Nat) : ∀ k, filt l f i <+: filt l f (i + k)
  | 0 => List.prefix_rfl
  | k + 1 => by
    rw [← Nat.add_assoc, filt_succ]
    exact (filt_pre l f i k).trans (List.prefix_append _ _)
theorem filt_take (l : List (Int × Int)) (f : Int) (i n : Nat) (h : i ≤ n) : (filt l f n).take (filt l f i).length = filt l f i := by
  obtain ⟨k, rfl⟩ := Nat.exists_eq_add_of_le h
  exact (List.prefix_iff_eq_take.1 (filt_pre l f i k)).symm
def cellsI (l : List Int) : List Value := l.map (Value.int .i64)
theorem cellsI_snoc (l : List Int) (x : Int) : cellsI (l ++ [x]) = cellsI l ++ [.int .i64 x] := by simp [cellsI]
def OwnI (w : World) (B : Nat) (v : Value) (l : List Int) : Prop := w.ownsRow B 3 1 v l.length (cellsI l)
theorem ownI_shape {w : World} {B : Nat} {v : Value} {l : List Int} (h : OwnI w B v l) : ∃ a c, v = .slice a l.length c := by
  rcases Sp.own_shape h with ⟨rfl, h0⟩ | ⟨g, c, rfl, _, _⟩
  · exact ⟨none, 0, by rw [h0]⟩
  · exact ⟨_, c, rfl⟩
set_option maxRecDepth 100000 in
set_option maxHeartbeats 4000000 in
theorem answer_any {B : Nat} {w : World} {a : Option Addr} {n cap : Nat} {ms : List ByteArray} (sz f : Int) (gd : Good sz f n ms) (h : Row B w a n cap ms) {B' : Nat} {v : Value} {l : List (Int × Int)} (hs : Sp.Spans w B' v l) (hl9 : l.length ≤ 1000) (most : Nat) (hm : most ≤ 256) :
    Calls Try.prog 22 #[.agg #[.int .i64 sz, .int .i64 f, .slice a n cap], v, .int .i64 (most : Int)] w fun e w' => (∃ rv, e = .returned (.tuple #[rv, .int .i64 0]) ∧ OwnI w' w.heap.size rv ((filt l f n).take most)) ∧ Below w.heap.size w w' := by
  have HG := Lib.hid gd
  have HR := Lib.hid h
  have HS := Lib.hid hs
  obtain ⟨s1, s2, f0, f1, le, _⟩ := gd
  have hn256 : n ≤ 256 := by omega
  obtain ⟨i0, hi, hz0, hz1, hz2⟩ : ∃ i, Try.prog.info? 3 = some i ∧ i.zero = some (.int .i64 0) ∧ i.size = 1 ∧ i.bytes = 8 := ⟨_, rfl, by kernel_rfl, by kernel_rfl, by kernel_rfl⟩
  have p3 := Lib.hid (heap_alloc_new w (.cells #[.int .i64 sz, .int .i64 f, .slice a n cap] 25))
  have BB := Lib.hid (new_block (w := w) (.cells #[.int .i64 sz, .int .i64 f, .slice a n cap] 25))
  clear h hs
  go_enter Try.func22, Try.ntmps22
  go_wp2_with fail
  refine (valid_yes sz f HG.out (HR.out.below BB.out)).mono ?_
  rintro e w1 ⟨rfl, hb⟩
  replace p3 := Lib.hid ((hb.block _ (Array.getElem?_eq_some_iff.1 p3.out).1).trans p3.out)
  replace BB := Lib.hid (BB.out.trans (hb.mono (by simp)))
  clear hb
  go_wp2_with fail
  refine (within_yes _ _ _ _ (by omega) (by omega)).mono ?_
  rintro e w2 ⟨rfl, mm, rfl⟩
  replace p3 := Lib.hid (show (w1.drewN mm).heap[w.heap.size]? = _ from p3.out)
  replace BB := Lib.hid (Buf.below_drewN BB.out mm)
  generalize w1.drewN mm = w2 at *
  obtain ⟨k0, k1, k2⟩ := cells3 p3.out
  go_wp2_with fail
  clear k0 k1 k2
  go_loopw [9, 8] (fun s9 s8 wr => ∃ i : Nat, s9 = .int .i64 (f + (i : Int)) ∧ i ≤ n ∧ (filt l f i).length ≤ most ∧ Hid (OwnI wr w.heap.size s8 (filt l f i)) ∧ Hid (wr.heap[w.heap.size]? = some (.cells #[.int .i64 sz, .int .i64 f, .slice a n cap] 25 (0, 0))) ∧ Hid (Below w.heap.size w wr)) (fun s9 _ _ => (f + n - intOf s9).toNat)
  case atStart => exact ⟨0, by simp, by omega, by simp [filt], Lib.hid (World.ownsRow_nil _ _ _ _), p3, BB⟩
  case round =>
    clear p3 BB
    obtain ⟨i, rfl, hin, hlm, O, p3, BB⟩ := hrel
    obtain ⟨k0, k1, k2⟩ := cells3 p3.out
    have hls := filt_len l f i
    go_wp2_with fail
    refine (next_any sz f f0 f1 hn256).mono ?_
    rintro e w3 ⟨rfl, hb⟩
    clear k0 k1 k2
    replace p3 := Lib.hid ((hb.block _ (Array.getElem?_eq_some_iff.1 p3.out).1).trans p3.out)
    replace O := Lib.hid (Sp.own_below O.out hb)
    replace BB := Lib.hid (BB.out.trans (hb.mono BB.out.size))
    clear hb
    have hle := BB.out.size
    obtain ⟨a8, c8, rfl⟩ := ownI_shape O.out
    by_cases hi2 : i < n
    · have hi' : f + (i : Int) < f + n := by omega
      by_cases hlm2 : (filt l f i).length < most
      · have hlm3 : ((filt l f i).length : Int) < most := by omega
        go_wp2_with fail
        refine (Sp.inSome_any (f + i) (Sp.own_below HS.out BB.out) hl9).mono ?_
        rintro e w4 ⟨rfl, hb⟩
        replace p3 := Lib.hid ((hb.block _ (Array.getElem?_eq_some_iff.1 p3.out).1).trans p3.out)
        replace O := Lib.hid (Sp.own_below O.out hb)
        replace BB := Lib.hid (BB.out.trans (hb.mono BB.out.size))
        have hle := BB.out.size
        clear hb
        cases hh : Sp.hasB l (f + i) with
        | true =>
          have hy := Lib.hid (filt_yes l f i hh)
          have nb := Lib.hid (heap_alloc_new w4 (.cells #[.int .i64 (f + i)] 3))
          have ow := Lib.hid (Sp.own_below O.out (new_block (.cells #[.int .i64 (f + i)] 3)))
          have one : Hid (∀ u ∈ [Value.int .i64 (f + i)], u.oneCell' = true) := Lib.hid (by simp; rfl)
          replace hh := Lib.hid hh
          go_wp2_with (at_builtin; refine wpList_append_lies _ rfl (.tmp 33) (.tmp 35) 22 rfl w.heap.size 3 i0 (.int .i64 0) 1 8 Try.underlying22 hi hz0 hz1 hz2 rfl (by decide) _ (filt l f i).length (cellsI (filt l f i)) rfl ow.out ⟨w4.heap.size, 0, none⟩ 1 1 [.int .i64 (f + i)] rfl rfl (World.news_of_block nb.out) one.out (by decide) (by unfold maxLen; omega) (by omega) (by simp; omega) _ rfl ?_; intro gq cq w5 O2 G2 hg2 hl2)
          have p5 := Lib.hid (keep_blk G2 p3.out (fun he => Sp.own_ne O.out p3.out (by decide) he.symm))
          have B5 := Lib.hid (keep_bel G2 BB.out (fun k hk => (O.out.lt k hk).1))
          have O5 : Hid (OwnI w5 w.heap.size (.slice (some ⟨gq, 0, none⟩) ((filt l f i).length + 1) cq) (filt l f (i + 1))) := Lib.hid (by rw [hy.out]; unfold OwnI; rw [cellsI_snoc]; simpa using O2)
          have hl5 : (filt l f (i + 1)).length ≤ most := by rw [hy.out]; simp; omega
          clear O2 G2 hg2 hl2 ow nb one O
          go_roundw
          case rel => exact ⟨i + 1, by congr 1; push_cast; omega, by omega, hl5, O5, p5, B5⟩
          case measure => simp [intOf]; omega
        | false =>
          have hy := Lib.hid (filt_no l f i hh)
          replace hh := Lib.hid hh
          have O5 : Hid (OwnI w4 w.heap.size (.slice a8 (filt l f i).length c8) (filt l f (i + 1))) := Lib.hid (by rw [hy.out]; exact O.out)
          have hl5 : (filt l f (i + 1)).length ≤ most := by rw [hy.out]; omega
          go_wp2_with fail
          go_roundw
          case rel => exact ⟨i + 1, by congr 1; push_cast; omega, by omega, hl5, O5, p3, BB⟩
          case measure => simp [intOf]; omega
      · have hlm3 : (most : Int) ≤ (filt l f i).length := by omega
        have ht := Lib.hid (show (filt l f n).take most = filt l f i by rw [← filt_take l f i n (by omega)]; congr 1; omega)
        go_wp2_with fail
        go_ret2
        exact ⟨⟨_, rfl, by rw [ht.out]; exact O.out⟩, BB.out⟩
    · obtain rfl : i = n := by omega
      have ht := Lib.hid (show (filt l f i).take most = filt l f i from List.take_of_length_le hlm)
      go_wp2_with fail
      go_ret2
      exact ⟨⟨_, rfl, by rw [ht.out]; exact O.out⟩, BB.out⟩
end Snd
end Go.Proofs.Ytganalieljmkmaa
