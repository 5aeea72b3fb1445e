/- The walk of SenderKeeps. -/
import Derived.Test.YtclggjcihmppjaaSndP
import Derived.Test.YtclggjcihmppjaaSndG
import Derived.Test.YtclggjcihmppjaaSndS
import Derived.Deep.AppendLies
import Derived.Deep.RegionHeld3
import Derived.Laws.OwnMore
namespace Go.Proofs.Ytclggjcihmppjaa
open Go.RowKit Wi Dice
namespace Laws
open Snd
/-- What is kept after k messages. -/
structure Kept (size first : Int) (n k : Nat) (L : List ByteArray) : Prop where
  len : L.length = k
  sm : ∀ j, j < k → (L.getD j ByteArray.empty).size ≤ 4064
  tot : first + n = k
  f0 : 0 ≤ first
  le : (n : Int) ≤ size
  or : first = 0 ∨ (n : Int) = size
theorem drop_getD (L : List ByteArray) (f j : Nat) : (L.drop f).getD j ByteArray.empty = L.getD (f + j) ByteArray.empty := by
  simp [List.getD_eq_getElem?_getD, List.getElem?_drop]
theorem Kept.good {size first : Int} {n k : Nat} {L : List ByteArray} (h : Kept size first n k L) (s1 : 1 ≤ size) (s2 : size ≤ 256) (hk : k ≤ 14) : Snd.Good size first n (L.drop first.toNat) :=
  ⟨s1, s2, h.f0, by have := h.tot; omega, h.le, fun j hj => by rw [drop_getD]; exact h.sm _ (by have := h.tot; have := h.f0; omega)⟩
theorem Kept.next {size first : Int} {n k : Nat} {L : List ByteArray} (h : Kept size first n k L) (m : ByteArray) (hm : m.size ≤ 4064) {f' : Int} {n' : Nat} {ms' : List ByteArray} (hn : n' = ms'.length)
    (hp : ((n : Int) + 1 ≤ size ∧ f' = first ∧ ms' = L.drop first.toNat ++ [m]) ∨ ((n : Int) = size ∧ f' = first + 1 ∧ ms' = (L.drop first.toNat ++ [m]).drop 1)) :
    Kept size f' n' (k + 1) (L ++ [m]) ∧ ms' = (L ++ [m]).drop f'.toNat := by
  obtain ⟨hl, sm, tot, f0, le, hor⟩ := h
  have hf : first.toNat ≤ L.length := by omega
  have e : L.drop first.toNat ++ [m] = (L ++ [m]).drop first.toNat := by rw [List.drop_append_of_le_length hf]
  have sm' : ∀ j, j < k + 1 → ((L ++ [m]).getD j ByteArray.empty).size ≤ 4064 := fun j hj => by
    by_cases hjk : j < k
    · rw [List.getD_eq_getElem?_getD, List.getElem?_append_left (by omega), ← List.getD_eq_getElem?_getD]; exact sm j hjk
    · obtain rfl : j = k := by omega
      rw [List.getD_eq_getElem?_getD, List.getElem?_append_right (by omega), hl]; simpa using hm
  rcases hp with ⟨h1, rfl, rfl⟩ | ⟨h1, rfl, rfl⟩
  · have hn' : n' = n + 1 := by rw [hn]; simp; omega
    subst hn'
    exact ⟨⟨by simp [hl], sm', by omega, f0, by omega, by omega⟩, e⟩
  · have hn' : n' = n := by rw [hn]; simp; omega
    subst hn'
    refine ⟨⟨by simp [hl], sm', by omega, by omega, by omega, .inr (by omega)⟩, ?_⟩
    rw [e, List.drop_drop]
    congr 1
    omega
theorem row_grown {B d : Nat} {w w' : World} {a : Option Addr} {n cap : Nat} {ms : List ByteArray} (h : Row B w a n cap ms) (hg : w.grownBy w' (some d)) (hd : d < B) : Row B w' a n cap ms := by
  refine ⟨h.1, ?_⟩
  rcases h.2 with h | ⟨g, off, e, h1, h2, h3, h4, h5⟩
  · exact .inl h
  · have hb := hg.block g h4 (by simp; omega)
    exact .inr ⟨g, off, e, h1, h2, h3, Nat.lt_of_lt_of_le h4 hg.size, fun j hj => (World.cell?_of_block (a := ⟨g, off + j, none⟩) hb).trans (h5 j hj)⟩
/-- The memory between two messages. -/
structure Mem (W w : World) (g b : Nat) (a0 : Option Addr) (len0 cap0 : Nat) (z0 : List Int) (size first : Int) (a : Option Addr) (n cap k : Nat) (v : Value) (L : List ByteArray) : Prop where
  di : Di W w g a0 len0 cap0 z0
  gb : g < b
  blk : w.heap[b]? = some (.cells #[.int .i64 size, .int .i64 first, .slice a n cap] 30 (0, 0))
  row : Row (b + 1) w a n cap (L.drop first.toNat)
  own : w.ownsRow (b + 1) 9 1 v k (L.map Value.string)
  kept : Kept size first n k L
theorem own_below {w w' : World} {B : Nat} {e : TypeId} {s : Nat} {v : Value} {n : Nat} {xs : List Value} (h : w.ownsRow B e s v n xs) (hb : Below w.heap.size w w') : w'.ownsRow B e s v n xs :=
  h.kept (Dice.grown_of_below (r := none) hb) (by cases v.ownBlock <;> simp)
theorem own_grown {w w' : World} {B d : Nat} {e : TypeId} {s : Nat} {v : Value} {n : Nat} {xs : List Value} (h : w.ownsRow B e s v n xs) (hg : w.grownBy w' (some d)) (hd : d < B) : w'.ownsRow B e s v n xs :=
  h.kept hg (.inr (fun he => by have := (h.lt d he).1; omega))
theorem Mem.below {W w w' : World} {g b : Nat} {a0 : Option Addr} {len0 cap0 : Nat} {z0 : List Int} {size first : Int} {a : Option Addr} {n cap k : Nat} {v : Value} {L : List ByteArray} (h : Mem W w g b a0 len0 cap0 z0 size first a n cap k v L) (hb : Below w.heap.size w w') : Mem W w' g b a0 len0 cap0 z0 size first a n cap k v L :=
  ⟨h.di.below hb, h.gb, (hb.block b (Array.getElem?_eq_some_iff.1 h.blk).1).trans h.blk, h.row.below hb, own_below h.own hb, h.kept⟩
theorem Mem.left {W w w' : World} {g b : Nat} {a0 : Option Addr} {len0 cap0 : Nat} {z0 : List Int} {size first : Int} {a : Option Addr} {n cap k : Nat} {v : Value} {L : List ByteArray} (h : Mem W w g b a0 len0 cap0 z0 size first a n cap k v L) (hl : Dice.Left W w w' g a0 len0 cap0 z0) : Mem W w' g b a0 len0 cap0 z0 size first a n cap k v L :=
  ⟨hl.di, h.gb, (hl.far.block b (Array.getElem?_eq_some_iff.1 h.blk).1 (by have := h.gb; simp; omega)).trans h.blk, row_grown h.row hl.far (by have := h.gb; omega), own_grown h.own hl.far (by have := h.gb; omega), h.kept⟩
theorem own_far {w : World} {B b : Nat} {e : TypeId} {sz : Nat} {v : Value} {n : Nat} {xs : List Value} (h : w.ownsRow B e sz v n xs) (hb : b < B) (k : Nat) (u : Value) : (w.setCell ⟨b, k, none⟩ u).ownsRow B e sz v n xs :=
  own_grown h ⟨rfl, rfl, rfl, by simp [World.setCell], fun j _ hne => Below.heap_setCell w _ _ j (fun e => hne (by rw [e]))⟩ hb
theorem di_far {W w : World} {g b : Nat} {a : Option Addr} {len cap : Nat} {zs : List Int} (h : Di W w g a len cap zs) (hb : g < b) (k : Nat) (u : Value) : Di W (w.setCell ⟨b, k, none⟩ u) g a len cap zs := by
  obtain ⟨p, hp, hk⟩ := h.blk
  exact ⟨h.base, by simp [World.setCell]; exact h.lt, h.bel.setCell (by show W.heap.size ≤ b; exact Nat.le_trans h.base (Nat.le_of_lt hb)) _, h.row, h.small, p, hp, by rw [Below.heap_setCell w _ _ g (fun e => by simp at e; omega)]; exact hk⟩
theorem di_grown {W w w' : World} {g B : Nat} {r : Option Nat} {a : Option Addr} {len cap : Nat} {zs : List Int} (h : Di W w g a len cap zs) (hg : w.grownBy w' r) (hr : ∀ k, r = some k → B ≤ k) (hB : g < B) : Di W w' g a len cap zs := by
  obtain ⟨p, hp, hk⟩ := h.blk
  exact ⟨h.base, Nat.lt_of_lt_of_le h.lt hg.size, h.bel.grown hg h.bel.size (fun k hk => Nat.le_trans h.base (by have := hr k hk; omega)), h.row, h.small, p, hp, (hg.block g h.lt (fun e => by have := hr g e.symm; omega)).trans hk⟩
theorem row_grownB {B : Nat} {w w' : World} {r : Option Nat} {a : Option Addr} {n cap : Nat} {ms : List ByteArray} (h : Row B w a n cap ms) (hg : w.grownBy w' r) (hr : ∀ g, a.map (·.block) = some g → r ≠ some g) : Row B w' a n cap ms := by
  refine ⟨h.1, ?_⟩
  rcases h.2 with h | ⟨g, off, e, h1, h2, h3, h4, h5⟩
  · exact .inl h
  · have hb := hg.block g h4 (fun e' => hr g (by rw [e]; rfl) e'.symm)
    exact .inr ⟨g, off, e, h1, h2, h3, Nat.lt_of_lt_of_le h4 hg.size, fun j hj => (World.cell?_of_block (a := ⟨g, off + j, none⟩) hb).trans (h5 j hj)⟩
theorem far3 {w : World} {t : Nat} {a b c : Value} {x : Addr} (h : t ≠ x.block) : (((w.setCell ⟨t, 0, none⟩ a).setCell ⟨t, 1, none⟩ b).setCell ⟨t, 2, none⟩ c).cell? x = w.cell? x := by
  rw [World.cell?_setCell_far _ _ _ _ h, World.cell?_setCell_far _ _ _ _ h, World.cell?_setCell_far _ _ _ _ h]
/-- The memory behind one more message. -/
theorem mem_next {W w0 w1 w2 : World} {g b : Nat} {a0 : Option Addr} {len0 cap0 : Nat} {z0 : List Int} {size first f' : Int} {a a' : Option Addr} {n n' cap cap' k c9 g9 B0 : Nat} {v : Value} {L : List ByteArray} {m : ByteArray}
    (M : Mem W w0 g b a0 len0 cap0 z0 size first a n cap k v L) (hB0 : ∀ k, v.ownBlock = some k → k < B0) (hb0 : b < B0) (hr : Row B0 w0 a' n' cap' ((L ++ [m]).drop f'.toNat)) (K : Kept size f' n' (k + 1) (L ++ [m]))
    (hbel : Below w0.heap.size w0 w1) (hg : w1.grownBy w2 v.ownBlock) (ho : w2.ownsRow (b + 1) 9 1 (.slice (some ⟨g9, 0, none⟩) (k + 1) c9) (k + 1) (L.map Value.string ++ [.string m])) :
    Mem W (((w2.setCell ⟨b, 0, none⟩ (.int .i64 size)).setCell ⟨b, 1, none⟩ (.int .i64 f')).setCell ⟨b, 2, none⟩ (.slice a' n' cap')) g b a0 len0 cap0 z0 size f' a' n' cap' (k + 1) (.slice (some ⟨g9, 0, none⟩) (k + 1) c9) (L ++ [m]) := by
  have M1 := M.below hbel
  have hob : ∀ k, v.ownBlock = some k → b + 1 ≤ k := fun k hk => (M.own.lt k hk).1
  have hgb := M.gb
  have h1 : w2.heap[b]? = some (.cells #[.int .i64 size, .int .i64 first, .slice a n cap] 30 (0, 0)) :=
    (hg.block b (Array.getElem?_eq_some_iff.1 M1.blk).1 (fun e => by have := hob b e.symm; omega)).trans M1.blk
  have hr2 : Row (b + 1) w2 a' n' cap' ((L ++ [m]).drop f'.toNat) := row_grownB (row_mono (hr.below hbel) hb0) hg (fun g' hg' e => by
    have := hB0 g' e
    rcases hr.2 with ⟨h, _⟩ | ⟨g1, off, h, _, _, h3, _⟩
    · rw [h] at hg'; cases hg'
    · rw [h] at hg'
      simp at hg'
      omega)
  refine ⟨di_far (di_far (di_far (di_grown M1.di hg hob (by omega)) hgb _ _) hgb _ _) hgb _ _, hgb, st3 h1 _ _ _, row_far (row_far (row_far hr2 (by omega) _ _) (by omega) _ _) (by omega) _ _, ?_, K⟩
  rw [List.map_append]
  exact own_far (own_far (own_far ho (by omega) _ _) (by omega) _ _) (by omega) _ _
theorem tab_at {w w' : World} {g j : Nat} (ws : List ByteArray) (t : TypeId) (hg : (w.alloc (.cells (ws.map Value.string).toArray t)).grownBy w' (some g)) (hne : w.heap.size ≠ g) (hj : j < ws.length) : w'.cell? ⟨w.heap.size, j, none⟩ = some (.string (ws.getD j ByteArray.empty)) := by
  rw [World.cell?_of_block (a := ⟨w.heap.size, j, none⟩) (hg.block w.heap.size (by simp) (by simpa using hne))]
  refine (World.cell?_alloc_mark w _ t (0, 0) j).trans ?_
  simp [List.getD_eq_getElem?_getD, List.getElem?_eq_getElem hj]
theorem tab_small (j : Nat) (hj : j < 4) : (([⟨#[97]⟩, ⟨#[98, 98]⟩, ⟨#[]⟩, ⟨#[99]⟩] : List ByteArray).getD j ByteArray.empty).size ≤ 4064 := by
  rcases (show j = 0 ∨ j = 1 ∨ j = 2 ∨ j = 3 by omega) with rfl | rfl | rfl | rfl <;> decide
theorem map_at {L : List ByteArray} {q : Nat} (h : q < L.length) : (L.map Value.string)[q]? = some (.string (L.getD q ByteArray.empty)) := by
  simp [List.getD_eq_getElem?_getD, List.getElem?_eq_getElem h]
set_option maxHeartbeats 4000000 in
set_option maxRecDepth 100000 in
theorem senderKeeps_walk (a0 : Option Addr) (len0 cap0 : Nat) (z0 : List Int) (w : World) (w0 : Buf.IsRow .i64 w a0 len0 cap0 z0) :
    Calls Try.prog 3 #[.slice a0 len0 cap0] w fun e w' => e = .returned (.bool true) ∧ Below w.heap.size w w' := by
  by_cases hs : len0 ≤ 500
  · have hd : decide ((len0 : Int) ≤ 500) = true := by simp; omega
    go_enter Try.func3, Try.ntmps3
    go_wp2_with (first | (go_at_call 5; refine (light_any _ _ _ _).mono ?_; rintro e w1 ⟨rfl, rfl⟩; rw [hd]) | (go_at_call 7; refine (roll_any a0 len0 cap0 z0 _ w0 hs).mono ?_; rintro e w2 ⟨rfl, hdi⟩))
    have I1 := Lib.hid (ints_alloc w2 [1, 2, 3, 5, 8] 3)
    refine (pick_any w2.heap.size [1, 2, 3, 5, 8] 5 5 (hdi.below (new_block _)) (by simpa using I1.out) rfl (by omega) (by omega) (by have := hdi.lt; omega) (by simp)).mono ?_
    rintro e w3 ⟨⟨size, rfl, hsz⟩, hl⟩
    have s1 : 1 ≤ size := by simp at hsz; omega
    have s2 : size ≤ 8 := by simp at hsz; omega
    have L3 := Lib.hid (hl.di)
    clear hl hdi I1 hsz
    go_wp2_with (go_at_call 9; refine (new_any size (by omega) (by omega)).mono ?_; rintro e w4 ⟨rfl, hb⟩)
    obtain ⟨i0, hi, hz0, hz1, hz2⟩ := info_parts infoS
    have hgb : w1.heap.size < w4.heap.size := Nat.lt_of_lt_of_le L3.out.lt hb.size
    have M0 : Hid (Mem w1 (w4.alloc (.cells #[.int .i64 size, .int .i64 0, .slice none 0 0] 30)) w1.heap.size w4.heap.size a0 len0 cap0 z0 size 0 none 0 0 0 (.slice none 0 0) []) := Lib.hid
      ⟨(L3.out.below hb).below (new_block _), hgb, heap_alloc_new _ _, ⟨rfl, .inl ⟨rfl, rfl, rfl⟩⟩, World.ownsRow_nil _ _ _ _, ⟨rfl, fun j hj => by omega, by simp, by omega, by omega, .inl rfl⟩⟩
    have hgl := L3.out.base
    clear hb L3
    go_loopw [7, 8] (fun v i wr => ∃ (k : Nat) (first : Int) (a : Option Addr) (n cap : Nat) (L : List ByteArray), k ≤ 14 ∧ i = .int .i64 k ∧ Hid (Mem w1 wr w1.heap.size w4.heap.size a0 len0 cap0 z0 size first a n cap k v L)) (fun _ i _ => 14 - (intOf i).toNat)
    case atStart => exact ⟨0, 0, none, 0, 0, [], by omega, rfl, M0⟩
    case round =>
      clear M0
      obtain ⟨k, first, a, n, cap, L, hk, rfl, M⟩ := hrel
      by_cases hlt : k < 14
      · go_wp2_with fail
        refine (next_any 4 (M.out.di.below (new_block _)) (by omega) (by omega)).mono ?_
        rintro e w5 ⟨⟨v, rfl, v0, v1⟩, hl⟩
        obtain ⟨j, rfl⟩ := Int.eq_ofNat_of_zero_le v0
        have hj : j < 4 := by omega
        have hwg : wr.heap.size ≠ w1.heap.size := by have := M.out.di.lt; omega
        have c := tab_at (w := wr) [⟨#[97]⟩, ⟨#[98, 98]⟩, ⟨#[]⟩, ⟨#[99]⟩] 9 hl.far hwg (j := j) hj
        have hm := tab_small j hj
        generalize ([⟨#[97]⟩, ⟨#[98, 98]⟩, ⟨#[]⟩, ⟨#[99]⟩] : List ByteArray).getD j ByteArray.empty = m at c hm
        replace M := Lib.hid ((M.out.below (new_block _)).left hl)
        obtain ⟨c0, c1, c2⟩ := cells3 M.out.blk
        obtain ⟨hl1, _, tot, ff0, fle, _⟩ := M.out.kept
        have hl1' := Lib.hid hl1
        have tot' := Lib.hid tot
        have f14 : first ≤ 14 := by omega
        clear hl hl1 tot
        go_wp2_with fail
        refine (push_any size first m (M.out.kept.good s1 (by omega) (by omega)) hm M.out.row).mono ?_
        rintro e w6 ⟨⟨a', n', cap', ms', f', rfl, hrow, hor⟩, hb⟩
        obtain ⟨K, rfl⟩ := M.out.kept.next m hm hrow.1 hor
        rw [tot'.out]
        have hB0 := Lib.hid fun q hq => (M.out.own.lt q hq).2
        have h56 := hb.size
        have hb0 : w4.heap.size < w5.heap.size := (Array.getElem?_eq_some_iff.1 M.out.blk).1
        have tot2 := Lib.hid K.tot
        have f15 : f' ≤ 1000 := by have := K.tot; omega
        have f0' := K.f0
        have n9 : n' ≤ 256 := by have := K.le; omega
        replace M := Lib.hid (M.out.below hb)
        replace hrow := Lib.hid hrow
        have KH := Lib.hid K
        have eqk : ((k : Int) == (k : Int)) = true := by simp
        clear hb hor K c c0 c1 c2 tot'
        go_wp2_with fail
        refine (valid_yes size f' (KH.out.good s1 (by omega) (by omega)) (hrow.out.below (new_block _))).mono ?_
        rintro e w7 ⟨rfl, hb⟩
        have X7 := Lib.hid ((hb.block w6.heap.size (by simp)).trans (heap_alloc_new w6 _))
        obtain ⟨x0, x1, x2⟩ := cells3 X7.out
        replace M := Lib.hid ((M.out.below (new_block _)).below hb)
        replace hrow := Lib.hid ((hrow.out.below (new_block _)).below hb)
        clear hb
        go_wp2_with fail
        refine (next_any size f' f0' f15 n9).mono ?_
        rintro e w8 ⟨rfl, hb⟩
        have X8 := Lib.hid ((hb.block w6.heap.size (Array.getElem?_eq_some_iff.1 X7.out).1).trans X7.out)
        obtain ⟨y0, y1, y2⟩ := cells3 X8.out
        replace M := Lib.hid (M.out.below hb)
        replace hrow := Lib.hid (hrow.out.below hb)
        rw [tot2.out, show ((k + 1 : Nat) : Int) = (k : Int) + 1 by omega]
        have eqk1 : ((k : Int) + 1 == (k : Int) + 1) = true := by simp
        clear hb x0 x1 x2 X7
        go_wp2_with fail
        have hxb : w4.heap.size ≠ w6.heap.size := by omega
        have hux : Hid (∀ q, u7.ownBlock = some q → q ≠ w6.heap.size) := Lib.hid fun q hq => by have := hB0.out q hq; omega
        have h8 : Hid (w4.heap.size + 1 ≤ (w8.alloc (.cells #[.string m] 9)).drew.heap.size) := Lib.hid (by have := (Array.getElem?_eq_some_iff.1 X8.out).1; simp; omega)
        have news : Hid (∀ (j : Nat) (u : Value), [Value.string m][j]? = some u → (w8.alloc (.cells #[.string m] 9)).drew.cell? ((⟨w8.heap.size, 0, none⟩ : Addr).add j) = some u) := Lib.hid fun j u hu => by
          cases j with
          | zero => simp at hu; subst hu; exact (World.cell?_alloc_mark w8 #[.string m] 9 (0, 0) 0).trans rfl
          | succ j => simp at hu
        have one : Hid (∀ u ∈ [Value.string m], u.oneCell' = true) := Lib.hid (by simp; rfl)
        have hk16 : Hid ((k + 1) * 16 ≤ 140737488355328) := Lib.hid (by omega)
        have hkm : Hid (k + 1 ≤ maxLen) := Lib.hid (by unfold maxLen; omega)
        have hne8 : w6.heap.size ≠ w8.heap.size := by have := (Array.getElem?_eq_some_iff.1 X8.out).1; omega
        have ho : Hid ((w8.alloc (.cells #[.string m] 9)).drew.ownsRow (w4.heap.size + 1) 9 1 u7 k (L.map Value.string)) := Lib.hid (own_below M.out.own ((Below.refl _ _).alloc (Nat.le_refl _) _).drew)
        go_region_held3 (fun w' => w'.cell? ⟨w6.heap.size, 0, none⟩ = some (.int .i64 size) ∧ w'.cell? ⟨w6.heap.size, 1, none⟩ = some (.int .i64 f') ∧ w'.cell? ⟨w6.heap.size, 2, none⟩ = some (.slice a' n' cap'))
          (first
            | (go_split_ands; ((with_reducible refine ⟨(far3 hxb).trans ?_, (far3 hxb).trans ?_, (far3 hxb).trans ?_⟩) <;> (with_reducible assumption)))
            | (go_split_ands; ((with_reducible refine ⟨z0', z1', z2'⟩)))
            | go_keep)
          ((refine step_append_lies _ rfl (.tmp 68) (.tmp 70) 28 rfl (w4.heap.size + 1) 9 i0 (.string ⟨#[]⟩) 1 16 Try.underlying28 hi hz0 hz1 hz2 rfl (by decide) u7 k (L.map Value.string) (by simp [Act.eval]) ho.out ⟨w8.heap.size, 0, none⟩ 1 1 [.string m] (by simp [Act.eval]) rfl news.out one.out (by decide) hkm.out hk16.out h8.out _ rfl ?_; intro g9 c9 w9 hown hgrow hat hlt9; have X9 := Lib.hid ((hgrow.block w6.heap.size (by have := (Array.getElem?_eq_some_iff.1 X8.out).1; simp; omega) (fun e => hux.out _ e.symm rfl)).trans ((heap_alloc_old w8 _ (Array.getElem?_eq_some_iff.1 X8.out).1).trans X8.out)); obtain ⟨z0', z1', z2'⟩ := cells3 X9.out; have B9 := Lib.hid ((hgrow.block w4.heap.size (by have := (Array.getElem?_eq_some_iff.1 X8.out).1; simp; omega) (fun e => by have := (M.out.own.lt _ e.symm).1; omega)).trans ((heap_alloc_old w8 _ (Array.getElem?_eq_some_iff.1 M.out.blk).1).trans M.out.blk)); obtain ⟨q0', q1', q2'⟩ := cells3 B9.out; obtain ⟨r0', r1', r2'⟩ := free3 B9.out))
        have MX := Lib.hid (mem_next M.out hB0.out hb0 hrow.out KH.out ((Below.refl _ _).alloc (Nat.le_refl _) _).drew hgrow hown)
        generalize (((w9.setCell ⟨w4.heap.size, 0, none⟩ (.int .i64 size)).setCell ⟨w4.heap.size, 1, none⟩ (.int .i64 f')).setCell ⟨w4.heap.size, 2, none⟩ (.slice a' n' cap')) = wX at MX ⊢
        clear M hrow hgrow hown X8 X9 B9 y0 y1 y2 z0' z1' z2' q0' q1' q2' r0' r1' r2' news one ho hat hlt9 eqk eqk1 hB0 hux h8
        obtain ⟨wo, rfl⟩ : ∃ wo, wo = wr := ⟨_, rfl⟩
        have hlen := Lib.hid KH.out.len
        have htot := Lib.hid KH.out.tot
        have hor := Lib.hid KH.out.or
        have hle' := KH.out.le
        go_wp2_with fail
        go_loopw [13] (fun q wr => ∃ z : Int, -1 ≤ z ∧ z ≤ (k : Int) + 2 ∧ q = .int .i64 z ∧ Hid (Below wX.heap.size wX wr)) (fun q _ => ((k : Int) + 3 - intOf q).toNat)
        case atStart => exact ⟨-1, by omega, by omega, rfl, Lib.hid (Below.refl _ _)⟩
        case round =>
          obtain ⟨z, z0, z1, rfl, hb⟩ := hrel
          have MY := Lib.hid (MX.out.below hb.out)
          by_cases hz : z ≤ (k : Int) + 1
          · obtain ⟨c0, c1, c2⟩ := cells3 MY.out.blk
            go_wp2_with fail
            refine (get_any size f' z (KH.out.good s1 (by omega) (by omega)) (by omega) (by omega) MY.out.row).mono ?_
            rintro e w10 ⟨he, hb2⟩
            replace MY := Lib.hid (MY.out.below hb2)
            replace hb := Lib.hid (Buf.then_ hb.out hb2)
            clear c0 c1 c2 hb2
            rcases he with ⟨j, hj, rfl, rfl⟩ | ⟨hzz, rfl⟩
            · have tt := htot.out
              have oo := hor.out
              obtain ⟨q, hq⟩ : ∃ q : Nat, f' + j = (q : Int) := ⟨(f' + j).toNat, by omega⟩
              have d1 : decide (0 ≤ (q : Int)) = true := by simp
              have d2 : decide ((q : Int) ≤ (k : Int)) = true := by simp; omega
              have d3 : decide ((k : Int) - size < (q : Int)) = true := by simp; omega
              have cc : w10.cell? ⟨g9, q, none⟩ = some (.string ((L ++ [m]).getD q ByteArray.empty)) := by
                rw [MY.out.own.cellAt q (by omega)]; exact map_at (by rw [hlen.out]; omega)
              rw [drop_getD, show f'.toNat + j = q by omega]
              generalize (L ++ [m]).getD q ByteArray.empty = sq at cc ⊢
              rw [hq] at z0 z1 hz ⊢
              have hqk : q < k + 1 := by omega
              have HQ := Lib.hid hq
              clear hq tt oo
              go_wp2_with fail
              refine ⟨⟨(q : Int) + 1, by omega, by omega, rfl, hb⟩, ?_⟩
              have := HQ.out
              simp [intOf]; omega
            · have tt := htot.out
              have oo := hor.out
              by_cases h0 : 0 ≤ z
              · have d1 : decide (0 ≤ z) = true := by simpa using h0
                by_cases hk1 : z ≤ (k : Int)
                · have d2 : decide (z ≤ (k : Int)) = true := by simpa using hk1
                  have d3 : decide ((k : Int) - size < z) = false := by simp; omega
                  clear hzz tt oo
                  go_wp2_with fail
                  refine ⟨⟨z + 1, by omega, by omega, rfl, hb⟩, ?_⟩
                  have := hk1
                  simp [intOf]; omega
                · have d2 : decide (z ≤ (k : Int)) = false := by simp; omega
                  clear hzz tt oo
                  go_wp2_with fail
                  refine ⟨⟨z + 1, by omega, by omega, rfl, hb⟩, ?_⟩
                  have := hk1
                  simp [intOf]; omega
              · have d1 : decide (0 ≤ z) = false := by simp; omega
                clear hzz tt oo
                go_wp2_with fail
                refine ⟨⟨z + 1, by omega, by omega, rfl, hb⟩, ?_⟩
                have := h0
                simp [intOf]; omega
          · have hM := Lib.hid (MX.out.below hb.out)
            have hz' : ¬ z ≤ (k : Int) + 1 := hz
            clear MY hb
            go_wp2_with fail
            go_roundw
            case rel => exact ⟨k + 1, f', a', n', cap', L ++ [m], by omega, by go_num, hM⟩
            case measure => simp [intOf]; omega
      · obtain rfl : k = 14 := by omega
        have hB := Lib.hid M.out.di.bel
        clear M
        go_wp2_with (go_at_call 6; refine (Snd.sane_any _).mono ?_; rintro e w5 ⟨rfl, hb⟩)
        go_ret
        exact ⟨rfl, Buf.then_ hB.out hb⟩
  · have hd : decide ((len0 : Int) ≤ 500) = false := by simp; omega
    go_enter Try.func3, Try.ntmps3
    go_wp2_with (first | (go_at_call 5; refine (light_any _ _ _ _).mono ?_; rintro e w1 ⟨rfl, rfl⟩; rw [hd]) | (go_at_call 6; refine (Snd.sane_any _).mono ?_; rintro e w2 ⟨rfl, hb⟩))
    go_ret
    exact ⟨rfl, hb⟩
end Laws
end Go.Proofs.Ytclggjcihmppjaa
