/- Senders of any numbers and strings: Answer of both packages. -/
import Derived.Test.YtganalieljmkmaaSxB
import Derived.Test.YtganalieljmkmaaSndF
import Derived.Deep.AppendLies
set_option linter.unusedVariables false
set_option linter.unusedSimpArgs false
namespace Go.Proofs.Ytganalieljmkmaa
open Go.RowKit Dice Wi
namespace Sx
open Snd (cells3 free3 filt filt_succ filt_yes filt_no filt_len filt_take cellsI cellsI_snoc OwnI ownI_shape keep_blk keep_bel)
abbrev LP := List (Int × Int)
/-- A list of spans that can be read, wherever it begins. -/
def Spw (w : World) (v : Value) (L : LP) : Prop :=
  ∃ ad c, v = .slice ad L.length c ∧ L.length ≤ c ∧ ∀ (k : Nat) (p : Int × Int), L[k]? = some p → ∃ g o, ad = some ⟨g, o, none⟩ ∧ g < w.heap.size ∧ w.cell? ⟨g, o + k * 2, none⟩ = some (.int .i64 p.1) ∧ w.cell? ⟨g, o + k * 2 + 1, none⟩ = some (.int .i64 p.2)
theorem Spw.keep {w w' : World} {v : Value} {L : LP} (h : Spw w v L) (hb : Below w.heap.size w w') : Spw w' v L := by
  obtain ⟨ad, c, e, hc, hf⟩ := h
  refine ⟨ad, c, e, hc, fun k p hp => ?_⟩
  obtain ⟨g, o, e, hg, h0, h1⟩ := hf k p hp
  exact ⟨g, o, e, Nat.lt_of_lt_of_le hg hb.size, (hb.cell (p := ⟨g, _, none⟩) hg).trans h0, (hb.cell (p := ⟨g, _, none⟩) hg).trans h1⟩
theorem Spw.form {w : World} {v : Value} {L : LP} (h : Spw w v L) : ∃ a n c, v = .slice a n c := by
  obtain ⟨a, c, e, _⟩ := h
  exact ⟨a, _, c, e⟩
theorem Spw.far {w w' : World} {v : Value} {L : LP} {d : Nat} (h : Spw w v L) (hg : w.grownBy w' (some d)) (hd : L ≠ [] → v.ownBlock ≠ some d) : Spw w' v L := by
  obtain ⟨ad, c, rfl, hc, hf⟩ := h
  refine ⟨ad, c, rfl, hc, fun k p hp => ?_⟩
  obtain ⟨g, o, rfl, hl, k0, k1⟩ := hf k p hp
  have hne : some g ≠ some d := fun e => hd (by rintro rfl; cases hp) (by simpa [Value.ownBlock] using e)
  exact ⟨g, o, rfl, Nat.lt_of_lt_of_le hl hg.size, hg.cell k0 hne, hg.cell k1 hne⟩
theorem Spw.apart {w : World} {v : Value} {L : LP} {d : Nat} (h : Spw w v L) (hd : w.heap.size ≤ d) : L ≠ [] → v.ownBlock ≠ some d := by
  intro hL e
  obtain ⟨ad, c, rfl, hc, hf⟩ := h
  cases L with
  | nil => exact hL rfl
  | cons p l =>
    obtain ⟨g, o, rfl, hg, _⟩ := hf 0 p rfl
    have : g = d := by simpa [Value.ownBlock] using e
    omega
theorem spw_of_own {B : Nat} {w : World} {v : Value} {L : LP} (h : Sp.Spans w B v L) : Spw w v L := by
  rcases Sp.own_shape h with ⟨rfl, h0⟩ | ⟨g, c, rfl, hc, hg⟩
  · obtain rfl : L = [] := List.length_eq_zero_iff.1 h0
    exact ⟨none, 0, rfl, Nat.le_refl _, fun k p hp => by cases hp⟩
  · refine ⟨_, c, rfl, hc, fun k p hp => ?_⟩
    obtain ⟨a, b⟩ := Sp.span_cells rfl h k p hp
    exact ⟨g, 0, rfl, hg, by simpa using a, by simpa using b⟩
theorem itw_of_cells {w : World} {a : Addr} {n c : Nat} (f : Nat → Int × Int) (hc : n ≤ c) (h : ∀ i, i < n → w.cell? (a.add (i * 2)) = some (.int .i64 (f i).1) ∧ w.cell? (a.add (i * 2 + 1)) = some (.int .i64 (f i).2)) : Spw w (.slice (some a) n c) ((List.range n).map f) := by
  refine ⟨some a, c, by simp, by simpa using hc, fun k p hp => ?_⟩
  have hk : k < n := by have := (List.getElem?_eq_some_iff.1 hp).1; simpa using this
  have hpe : p = f k := by simp [List.getElem?_map, List.getElem?_range hk] at hp; exact hp.symm
  subst hpe
  obtain ⟨c0, c1⟩ := h k hk
  have hs : a.spot = none := by
    have c2 := (h 0 (by omega)).1
    rw [Nat.zero_mul] at c2
    have : a.add 0 = a := by simp [Addr.add]
    rw [this] at c2
    unfold World.cell? at c2
    split at c2
    · split at c2
      · cases c2
      · rename_i hh; simpa using hh
    · cases c2
  obtain ⟨g, o, s⟩ := a
  obtain rfl : s = none := hs
  have e : ∀ j, (⟨g, o, none⟩ : Addr).add j = ⟨g, o + j, none⟩ := fun j => by unfold Addr.add; split <;> simp_all
  rw [e] at c0 c1
  refine ⟨g, o, rfl, ?_, c0, by rw [Nat.add_assoc]; exact c1⟩
  rcases Nat.lt_or_ge g w.heap.size with hl | hl
  · exact hl
  · simp [World.cell?, Array.getElem?_eq_none hl] at c0
theorem strs_of_cells {w : World} {a : Addr} {n c : Nat} (f : Nat → ByteArray) (hc : n ≤ c) (hm : c ≤ maxLen) (h : ∀ i, i < n → w.cell? (a.add i) = some (.string (f i))) : Stw w (.slice (some a) n c) ((List.range n).map f) := by
  refine ⟨some a, c, by simp, by simpa using hc, hm, fun k p hp => ?_⟩
  have hk : k < n := by have := (List.getElem?_eq_some_iff.1 hp).1; simpa using this
  have hpe : p = f k := by simp [List.getElem?_map, List.getElem?_range hk] at hp; exact hp.symm
  subst hpe
  have c0 := h k hk
  have hs : a.spot = none := by
    have c2 := h 0 (by omega)
    have : a.add 0 = a := by simp [Addr.add]
    rw [this] at c2
    unfold World.cell? at c2
    split at c2
    · split at c2
      · cases c2
      · rename_i hh; simpa using hh
    · cases c2
  obtain ⟨g, o, s⟩ := a
  obtain rfl : s = none := hs
  have e : ∀ j, (⟨g, o, none⟩ : Addr).add j = ⟨g, o + j, none⟩ := fun j => by unfold Addr.add; split <;> simp_all
  rw [e] at c0
  refine ⟨g, o, rfl, ?_, c0⟩
  rcases Nat.lt_or_ge g w.heap.size with hl | hl
  · exact hl
  · simp [World.cell?, Array.getElem?_eq_none hl] at c0
set_option maxHeartbeats 2000000 in
theorem inSome_w {w : World} {v : Value} {l : LP} (x : Int) (h : Spw w v l) (hl9 : l.length ≤ 1000) :
    Calls Try.prog 29 #[v, .int .i64 x] w fun e w' => e = .returned (.bool (Sp.hasB l x)) ∧ Below w.heap.size w w' := by
  obtain ⟨r, hr⟩ : ∃ r, Sp.hasB l x = r := ⟨_, rfl⟩
  rw [hr]
  replace hr := Lib.hid hr
  obtain ⟨ad, c, rfl, hc, hf⟩ := h
  obtain ⟨n, hn⟩ : ∃ n, l.length = n := ⟨_, rfl⟩
  rw [hn] at hc hl9 ⊢
  have F := Lib.hid hf
  replace hn := Lib.hid hn
  clear hf
  have hB := Lib.hid (Below.refl w.heap.size w)
  go_enter Try.func29, Try.ntmps29
  go_wp2
  go_loopw [9] (fun i wr => ∃ k : Nat, k ≤ n ∧ i = .int .i64 (k : Int) ∧ Hid (∀ j p, j < k → l[j]? = some p → ¬ (p.1 ≤ x ∧ x < p.2)) ∧ Hid (Below w.heap.size w wr)) (fun i _ => (n - intOf i).toNat)
  case atStart => exact ⟨0, Nat.zero_le _, rfl, Lib.hid (fun j p hj => by omega), hB⟩
  case round =>
    clear hB
    obtain ⟨k, hk, rfl, HN, hB⟩ := hrel
    by_cases hlt : k < n
    · have hlt' : (k : Int) < n := by omega
      obtain ⟨⟨f, t⟩, hp⟩ : ∃ p, l[k]? = some p := ⟨l[k]'(by rw [hn.out]; exact hlt), List.getElem?_eq_getElem _⟩
      obtain ⟨g, o, rfl, hg, q0, q1⟩ := F.out k _ hp
      have c0 := (hB.out.cell (p := ⟨g, _, none⟩) hg).trans q0
      have c1 := (hB.out.cell (p := ⟨g, _, none⟩) hg).trans q1
      dsimp only at c0 c1
      clear q0 q1
      by_cases h1 : f ≤ x ∧ x < t
      · obtain rfl : r = true := by rw [← hr.out]; exact Sp.hasB_stop l x k _ hp h1
        obtain ⟨h1, h2⟩ := h1
        replace hp := Lib.hid hp
        go_wp2
        go_ret
        exact ⟨rfl, hB.out.alloc hB.out.size _⟩
      · have HN' : Hid (∀ j p, j < k + 1 → l[j]? = some p → ¬ (p.1 ≤ x ∧ x < p.2)) := Lib.hid (fun j p hj hjp => by
          by_cases e : j = k
          · subst e; rw [hp] at hjp; cases hjp; exact h1
          · exact HN.out j p (by omega) hjp)
        replace hp := Lib.hid hp
        by_cases h2 : f ≤ x
        · have h3 : t ≤ x := by omega
          clear h1 HN
          go_wp2_with fail
          go_roundw
          case rel => exact ⟨k + 1, by omega, by go_num, HN', Lib.hid (hB.out.alloc hB.out.size _)⟩
          case measure => simp [intOf]; omega
        · have h3 : x < f := by omega
          clear h1 HN h2
          go_wp2_with fail
          go_roundw
          case rel => exact ⟨k + 1, by omega, by go_num, HN', Lib.hid (hB.out.alloc hB.out.size _)⟩
          case measure => simp [intOf]; omega
    · obtain rfl : k = n := by omega
      obtain rfl : r = false := by rw [← hr.out]; exact Sp.hasB_none l x k hn.out HN.out
      go_wp2
      go_ret
      exact ⟨rfl, hB.out⟩
set_option maxRecDepth 100000 in
set_option maxHeartbeats 4000000 in
theorem answer_ok {w : World} {a : Option Addr} {n cap : Nat} {ms : LS} (sz f : Int) (ok : OkS sz f ms) (h : Stw w (.slice a n cap) ms) {v : Value} {l : LP} (hs : Spw w v l) (hl9 : l.length ≤ 1000) (most : Nat) (hm : most ≤ 256) :
    Calls Try.prog 22 #[.agg #[.int .i64 sz, .int .i64 f, .slice a n cap], v, .int .i64 (most : Int)] w fun e w' => (∃ rv, e = .returned (.tuple #[rv, .int .i64 0]) ∧ OwnI w' w.heap.size rv ((filt l f n).take most)) ∧ Below w.heap.size w w' := by
  have hnl := (Stw.len h).1
  have HV := Lib.hid (show ∀ wx, Below w.heap.size w wx → Calls Try.prog 15 #[.agg #[.int .i64 sz, .int .i64 f, .slice a n cap]] wx fun e w' => e = .returned (.bool true) ∧ Below wx.heap.size wx w' from fun wx hb => by rw [← okB_yes ok]; exact valid_all sz f (h.keep hb) (by have := ok.2.2.2.1; have := ok.2.1; omega))
  have HS := Lib.hid hs
  obtain ⟨s1, s2, f0, le, f1, _⟩ := ok
  rw [← hnl] at le f1
  replace hnl := Lib.hid hnl
  have hn256 : n ≤ 256 := by omega
  obtain ⟨i0, hi, hz0, hz1, hz2⟩ : ∃ i, Try.prog.info? 3 = some i ∧ i.zero = some (.int .i64 0) ∧ i.size = 1 ∧ i.bytes = 8 := ⟨_, rfl, by kernel_rfl, by kernel_rfl, by kernel_rfl⟩
  have p3 := Lib.hid (heap_alloc_new w (.cells #[.int .i64 sz, .int .i64 f, .slice a n cap] 25))
  have BB := Lib.hid (new_block (w := w) (.cells #[.int .i64 sz, .int .i64 f, .slice a n cap] 25))
  clear h hs
  go_enter Try.func22, Try.ntmps22
  go_wp2_with fail
  refine (HV.out _ BB.out).mono ?_
  rintro e w1 ⟨rfl, hb⟩
  replace p3 := Lib.hid ((hb.block _ (Array.getElem?_eq_some_iff.1 p3.out).1).trans p3.out)
  replace BB := Lib.hid (BB.out.trans (hb.mono (by simp)))
  clear hb
  go_wp2_with fail
  refine (within_yes _ _ _ _ (by omega) (by omega)).mono ?_
  rintro e w2 ⟨rfl, mm, rfl⟩
  replace p3 := Lib.hid (show (w1.drewN mm).heap[w.heap.size]? = _ from p3.out)
  replace BB := Lib.hid (Buf.below_drewN BB.out mm)
  generalize w1.drewN mm = w2 at *
  obtain ⟨k0, k1, k2⟩ := cells3 p3.out
  go_wp2_with fail
  clear k0 k1 k2
  go_loopw [9, 8] (fun s9 s8 wr => ∃ i : Nat, s9 = .int .i64 (f + (i : Int)) ∧ i ≤ n ∧ (filt l f i).length ≤ most ∧ Hid (OwnI wr w.heap.size s8 (filt l f i)) ∧ Hid (wr.heap[w.heap.size]? = some (.cells #[.int .i64 sz, .int .i64 f, .slice a n cap] 25 (0, 0))) ∧ Hid (Below w.heap.size w wr)) (fun s9 _ _ => (f + n - intOf s9).toNat)
  case atStart => exact ⟨0, by simp, by omega, by simp [filt], Lib.hid (World.ownsRow_nil _ _ _ _), p3, BB⟩
  case round =>
    clear p3 BB
    obtain ⟨i, rfl, hin, hlm, O, p3, BB⟩ := hrel
    obtain ⟨k0, k1, k2⟩ := cells3 p3.out
    have hls := filt_len l f i
    go_wp2_with fail
    refine (next_s sz f f0 f1).mono ?_
    rintro e w3 ⟨rfl, hb⟩
    clear k0 k1 k2
    replace p3 := Lib.hid ((hb.block _ (Array.getElem?_eq_some_iff.1 p3.out).1).trans p3.out)
    replace O := Lib.hid (Sp.own_below O.out hb)
    replace BB := Lib.hid (BB.out.trans (hb.mono BB.out.size))
    clear hb
    have hle := BB.out.size
    obtain ⟨a8, c8, rfl⟩ := ownI_shape O.out
    by_cases hi2 : i < n
    · have hi' : f + (i : Int) < f + n := by omega
      by_cases hlm2 : (filt l f i).length < most
      · have hlm3 : ((filt l f i).length : Int) < most := by omega
        go_wp2_with fail
        refine (inSome_w (f + i) (HS.out.keep BB.out) hl9).mono ?_
        rintro e w4 ⟨rfl, hb⟩
        replace p3 := Lib.hid ((hb.block _ (Array.getElem?_eq_some_iff.1 p3.out).1).trans p3.out)
        replace O := Lib.hid (Sp.own_below O.out hb)
        replace BB := Lib.hid (BB.out.trans (hb.mono BB.out.size))
        have hle := BB.out.size
        clear hb
        cases hh : Sp.hasB l (f + i) with
        | true =>
          have hy := Lib.hid (filt_yes l f i hh)
          have nb := Lib.hid (heap_alloc_new w4 (.cells #[.int .i64 (f + i)] 3))
          have ow := Lib.hid (Sp.own_below O.out (new_block (.cells #[.int .i64 (f + i)] 3)))
          have one : Hid (∀ u ∈ [Value.int .i64 (f + i)], u.oneCell' = true) := Lib.hid (by simp; rfl)
          replace hh := Lib.hid hh
          go_wp2_with (at_builtin; refine wpList_append_lies _ rfl (.tmp 33) (.tmp 35) 22 rfl w.heap.size 3 i0 (.int .i64 0) 1 8 Try.underlying22 hi hz0 hz1 hz2 rfl (by decide) _ (filt l f i).length (cellsI (filt l f i)) rfl ow.out ⟨w4.heap.size, 0, none⟩ 1 1 [.int .i64 (f + i)] rfl rfl (World.news_of_block nb.out) one.out (by decide) (by unfold maxLen; omega) (by omega) (by simp; omega) _ rfl ?_; intro gq cq w5 O2 G2 hg2 hl2)
          have p5 := Lib.hid (keep_blk G2 p3.out (fun he => Sp.own_ne O.out p3.out (by decide) he.symm))
          have B5 := Lib.hid (keep_bel G2 BB.out (fun k hk => (O.out.lt k hk).1))
          have O5 : Hid (OwnI w5 w.heap.size (.slice (some ⟨gq, 0, none⟩) ((filt l f i).length + 1) cq) (filt l f (i + 1))) := Lib.hid (by rw [hy.out]; unfold OwnI; rw [cellsI_snoc]; simpa using O2)
          have hl5 : (filt l f (i + 1)).length ≤ most := by rw [hy.out]; simp; omega
          clear O2 G2 hg2 hl2 ow nb one O
          go_roundw
          case rel => exact ⟨i + 1, by congr 1; push_cast; omega, by omega, hl5, O5, p5, B5⟩
          case measure => simp [intOf]; omega
        | false =>
          have hy := Lib.hid (filt_no l f i hh)
          replace hh := Lib.hid hh
          have O5 : Hid (OwnI w4 w.heap.size (.slice a8 (filt l f i).length c8) (filt l f (i + 1))) := Lib.hid (by rw [hy.out]; exact O.out)
          have hl5 : (filt l f (i + 1)).length ≤ most := by rw [hy.out]; omega
          go_wp2_with fail
          go_roundw
          case rel => exact ⟨i + 1, by congr 1; push_cast; omega, by omega, hl5, O5, p3, BB⟩
          case measure => simp [intOf]; omega
      · have hlm3 : (most : Int) ≤ (filt l f i).length := by omega
        have ht := Lib.hid (show (filt l f n).take most = filt l f i by rw [← filt_take l f i n (by omega)]; congr 1; omega)
        go_wp2_with fail
        go_ret2
        exact ⟨⟨_, rfl, by rw [ht.out]; exact O.out⟩, BB.out⟩
    · obtain rfl : i = n := by omega
      have ht := Lib.hid (show (filt l f i).take most = filt l f i from List.take_of_length_le hlm)
      go_wp2_with fail
      go_ret2
      exact ⟨⟨_, rfl, by rw [ht.out]; exact O.out⟩, BB.out⟩
set_option maxRecDepth 100000 in
set_option maxHeartbeats 4000000 in
theorem refanswer_ok {w : World} {a : Option Addr} {n cap : Nat} {ms : LS} (sz f : Int) (ok : OkS sz f ms) (h : Stw w (.slice a n cap) ms) {v : Value} {l : LP} (hs : Spw w v l) (hl9 : l.length ≤ 1000) (most : Nat) (hm : most ≤ 256) :
    Calls Try.prog 23 #[.agg #[.int .i64 sz, .int .i64 f, .slice a n cap], v, .int .i64 (most : Int)] w fun e w' => (∃ rv, e = .returned (.tuple #[rv, .int .i64 0]) ∧ OwnI w' w.heap.size rv ((filt l f n).take most)) ∧ Below w.heap.size w w' := by
  have hnl := (Stw.len h).1
  have HV := Lib.hid (show ∀ wx, Below w.heap.size w wx → Calls Try.prog 16 #[.agg #[.int .i64 sz, .int .i64 f, .slice a n cap]] wx fun e w' => e = .returned (.bool true) ∧ Below wx.heap.size wx w' from fun wx hb => by rw [← okB_yes ok]; exact refvalid_all sz f (h.keep hb) (by have := ok.2.2.2.1; have := ok.2.1; omega))
  obtain ⟨va, vc, hv, hlc, hfl⟩ := id hs
  subst hv
  obtain ⟨ll, hll⟩ : ∃ ll, ll = l.length := ⟨_, rfl⟩
  rw [← hll] at hs hlc hl9 ⊢
  replace hll := Lib.hid hll
  have FL := Lib.hid hfl
  clear hfl
  obtain ⟨s1, s2, f0, le, f1, _⟩ := ok
  rw [← hnl] at le f1
  replace hnl := Lib.hid hnl
  have hn256 : n ≤ 256 := by omega
  obtain ⟨i0, hi, hz0, hz1, hz2⟩ : ∃ i, Try.prog.info? 3 = some i ∧ i.zero = some (.int .i64 0) ∧ i.size = 1 ∧ i.bytes = 8 := ⟨_, rfl, by kernel_rfl, by kernel_rfl, by kernel_rfl⟩
  have p3 := Lib.hid (heap_alloc_new w (.cells #[.int .i64 sz, .int .i64 f, .slice a n cap] 25))
  have BB := Lib.hid (new_block (w := w) (.cells #[.int .i64 sz, .int .i64 f, .slice a n cap] 25))
  clear h hs
  go_enter Try.func23, Try.ntmps23
  go_wp2_with fail
  refine (HV.out _ BB.out).mono ?_
  rintro e w1 ⟨rfl, hb⟩
  replace p3 := Lib.hid ((hb.block _ (Array.getElem?_eq_some_iff.1 p3.out).1).trans p3.out)
  replace BB := Lib.hid (BB.out.trans (hb.mono (by simp)))
  clear hb
  go_wp2_with fail
  refine (in_ok _ _ _ _ (by omega) (by omega)).mono ?_
  rintro e w2 ⟨rfl, mm, rfl⟩
  replace p3 := Lib.hid (show (w1.drewN mm).heap[w.heap.size]? = _ from p3.out)
  replace BB := Lib.hid (Buf.below_drewN BB.out mm)
  generalize w1.drewN mm = w2 at *
  obtain ⟨k0, k1, k2⟩ := cells3 p3.out
  go_wp2_with fail
  clear k0 k1 k2
  go_loopw [9, 8] (fun s9 s8 wr => ∃ i : Nat, s9 = .int .i64 (f + (i : Int)) ∧ i ≤ n ∧ (filt l f i).length ≤ most ∧ Hid (OwnI wr w.heap.size s8 (filt l f i)) ∧ Hid (wr.heap[w.heap.size]? = some (.cells #[.int .i64 sz, .int .i64 f, .slice a n cap] 25 (0, 0))) ∧ Hid (Below w.heap.size w wr)) (fun s9 _ _ => (f + n - intOf s9).toNat)
  case atStart => exact ⟨0, by simp, by omega, by simp [filt], Lib.hid (World.ownsRow_nil _ _ _ _), p3, BB⟩
  case round =>
    clear p3 BB
    obtain ⟨i, rfl, hin, hlm, O, p3, BB⟩ := hrel
    obtain ⟨k0, k1, k2⟩ := cells3 p3.out
    have hls := filt_len l f i
    go_wp2_with fail
    refine (refnext_s sz f f0 f1).mono ?_
    rintro e w3 ⟨rfl, hb⟩
    clear k0 k1 k2
    replace p3 := Lib.hid ((hb.block _ (Array.getElem?_eq_some_iff.1 p3.out).1).trans p3.out)
    replace O := Lib.hid (Sp.own_below O.out hb)
    replace BB := Lib.hid (BB.out.trans (hb.mono BB.out.size))
    clear hb
    have hle := BB.out.size
    obtain ⟨a8, c8, rfl⟩ := ownI_shape O.out
    by_cases hi2 : i < n
    · have hi' : f + (i : Int) < f + n := by omega
      by_cases hlm2 : (filt l f i).length < most
      · have hlm3 : ((filt l f i).length : Int) < most := by omega
        go_upto_region 9 with fail
        go_wp2_with fail
        go_loopw [10, 8] (fun s10 s8 wz => ∃ k : Nat, s8 = .slice a8 (filt l f i).length c8 ∧ k ≤ ll ∧ s10 = .int .i64 (k : Int) ∧ Hid (∀ j p, j < k → l[j]? = some p → ¬ (p.1 ≤ f + (i : Int) ∧ f + (i : Int) < p.2)) ∧ Hid (wz = w3)) (fun s10 _ _ => (ll - intOf s10).toNat)
        case atStart => exact ⟨0, rfl, Nat.zero_le _, rfl, Lib.hid (fun j p hj => by omega), Lib.hid rfl⟩
        case round =>
          obtain ⟨k, rfl, hk, rfl, HN, hwz⟩ := hrel
          replace hwz := hwz.out.symm
          subst hwz
          by_cases hkl : k < ll
          · have hkl' : (k : Int) < ll := by omega
            obtain ⟨⟨x, y⟩, hp⟩ : ∃ p, l[k]? = some p := ⟨l[k]'(by rw [← hll.out]; exact hkl), List.getElem?_eq_getElem _⟩
            obtain ⟨g, o, rfl, hg, q0', q1'⟩ := FL.out k _ hp
            have q0 := (BB.out.cell (p := ⟨g, _, none⟩) hg).trans q0'
            have q1 := (BB.out.cell (p := ⟨g, _, none⟩) hg).trans q1'
            dsimp only at q0 q1
            clear q0' q1'
            by_cases h1 : x ≤ f + (i : Int)
            · have d1 : decide (x ≤ f + (i : Int)) = true := decide_eq_true h1
              by_cases h2 : f + (i : Int) < y
              · have d2 : decide (f + (i : Int) < y) = true := decide_eq_true h2
                have hh := Sp.hasB_stop l (f + i) k _ hp ⟨h1, h2⟩
                replace hp := Lib.hid hp
                have hy := Lib.hid (filt_yes l f i hh)
                have nb := Lib.hid (heap_alloc_new w3 (.cells #[.int .i64 (f + i)] 3))
                have ow := Lib.hid (Sp.own_below O.out (new_block (.cells #[.int .i64 (f + i)] 3)))
                have one : Hid (∀ u ∈ [Value.int .i64 (f + i)], u.oneCell' = true) := Lib.hid (by simp; rfl)
                replace hh := Lib.hid hh
                go_wp2_with (at_builtin; refine wpList_append_lies _ rfl (.tmp 53) (.tmp 55) 22 rfl w.heap.size 3 i0 (.int .i64 0) 1 8 Try.underlying22 hi hz0 hz1 hz2 rfl (by decide) _ (filt l f i).length (cellsI (filt l f i)) rfl ow.out ⟨w3.heap.size, 0, none⟩ 1 1 [.int .i64 (f + i)] rfl rfl (World.news_of_block nb.out) one.out (by decide) (by unfold maxLen; omega) (by omega) (by simp; omega) _ rfl ?_; intro gq cq w5 O2 G2 hg2 hl2)
                have p5 := Lib.hid (keep_blk G2 p3.out (fun he => Sp.own_ne O.out p3.out (by decide) he.symm))
                have B5 := Lib.hid (keep_bel G2 BB.out (fun k hk => (O.out.lt k hk).1))
                have O5 : Hid (OwnI w5 w.heap.size (.slice (some ⟨gq, 0, none⟩) ((filt l f i).length + 1) cq) (filt l f (i + 1))) := Lib.hid (by rw [hy.out]; unfold OwnI; rw [cellsI_snoc]; simpa using O2)
                have hl5 : (filt l f (i + 1)).length ≤ most := by rw [hy.out]; simp; omega
                clear O2 G2 hg2 hl2 ow nb one O
                go_roundw
                case rel => exact ⟨i + 1, by congr 1; push_cast; omega, by omega, hl5, O5, p5, B5⟩
                case measure => simp [intOf]; omega
              · have d2 : decide (f + (i : Int) < y) = false := decide_eq_false h2
                have HN' : Hid (∀ j p, j < k + 1 → l[j]? = some p → ¬ (p.1 ≤ f + (i : Int) ∧ f + (i : Int) < p.2)) := Lib.hid (fun j p hj hjp => by
                  by_cases e : j = k
                  · subst e; rw [hp] at hjp; cases hjp; exact fun h => h2 h.2
                  · exact HN.out j p (by omega) hjp)
                replace hp := Lib.hid hp
                clear HN
                go_wp2_with fail
                go_roundw
                case rel => exact ⟨k + 1, rfl, by omega, by go_num, HN', by first | exact Lib.hid rfl | exact Lib.hid trivial⟩
                case measure => simp [intOf]; omega
            · have d1 : decide (x ≤ f + (i : Int)) = false := decide_eq_false h1
              have HN' : Hid (∀ j p, j < k + 1 → l[j]? = some p → ¬ (p.1 ≤ f + (i : Int) ∧ f + (i : Int) < p.2)) := Lib.hid (fun j p hj hjp => by
                by_cases e : j = k
                · subst e; rw [hp] at hjp; cases hjp; exact fun h => h1 h.1
                · exact HN.out j p (by omega) hjp)
              replace hp := Lib.hid hp
              clear HN
              go_wp2_with fail
              go_roundw
              case rel => exact ⟨k + 1, rfl, by omega, by go_num, HN', by first | exact Lib.hid rfl | exact Lib.hid trivial⟩
              case measure => simp [intOf]; omega
          · have hge : (ll : Int) ≤ k := by omega
            have hh := Sp.hasB_none l (f + i) ll hll.out.symm (fun j p hj => HN.out j p (by omega))
            clear HN
            have hy := Lib.hid (filt_no l f i hh)
            replace hh := Lib.hid hh
            have O5 : Hid (OwnI w3 w.heap.size (.slice a8 (filt l f i).length c8) (filt l f (i + 1))) := Lib.hid (by rw [hy.out]; exact O.out)
            have hl5 : (filt l f (i + 1)).length ≤ most := by rw [hy.out]; omega
            go_wp2_with fail
            go_roundw
            case rel => exact ⟨i + 1, by congr 1; push_cast; omega, by omega, hl5, O5, p3, BB⟩
            case measure => simp [intOf]; omega
      · have hlm3 : (most : Int) ≤ (filt l f i).length := by omega
        have ht := Lib.hid (show (filt l f n).take most = filt l f i by rw [← filt_take l f i n (by omega)]; congr 1; omega)
        go_wp2_with fail
        go_ret2
        exact ⟨⟨_, rfl, by rw [ht.out]; exact O.out⟩, BB.out⟩
    · obtain rfl : i = n := by omega
      have ht := Lib.hid (show (filt l f i).take most = filt l f i from List.take_of_length_le hlm)
      go_wp2_with fail
      go_ret2
      exact ⟨⟨_, rfl, by rw [ht.out]; exact O.out⟩, BB.out⟩
end Sx
end Go.Proofs.Ytganalieljmkmaa
