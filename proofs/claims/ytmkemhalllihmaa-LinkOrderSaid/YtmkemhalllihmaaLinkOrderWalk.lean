/- The walk of LinkOrder. -/
import Derived.Test.YtmkemhalllihmaaLnkG
set_option linter.unusedVariables false
set_option linter.unusedSimpArgs false
namespace Go.Proofs.Ytmkemhalllihmaa
open Go.RowKit Wi Dice
namespace Lnk
theorem own_left {W w w' : World} {g : Nat} {a : Option Addr} {len cap : Nat} {zs : List Int} {B sz : Nat} {e : TypeId} {v : Value} {n : Nat} {xs : List Value} (h : w.ownsRow B e sz v n xs) (hd : Di W w g a len cap zs) (he : 48 ≠ e) (l : Dice.Left W w w' g a len cap zs) : w'.ownsRow B e sz v n xs := by
  obtain ⟨p, _, hb⟩ := hd.blk
  refine own_kept h fun k hk => l.far.block k (h.lt k hk).2 ?_
  intro he2
  obtain rfl : k = g := by simpa using he2
  rcases h.2 with ⟨rfl, _⟩ | ⟨g', cap', cur, rfl, _, hg, _⟩
  · cases hk
  · simp only [Value.ownBlock, Option.some.injEq] at hk
    subst hk
    rw [hb] at hg
    cases hg
    exact he rfl
theorem lblk {W w w' : World} {g : Nat} {a : Option Addr} {len cap : Nat} {zs : List Int} (l : Dice.Left W w w' g a len cap zs) {k : Nat} {o : Obj} (hk : w.heap[k]? = some o) (hne : k ≠ g) : w'.heap[k]? = some o :=
  (l.far.block k (Array.getElem?_eq_some_iff.1 hk).1 (by simpa using hne)).trans hk
theorem own_ne {w : World} {B sz : Nat} {e T : TypeId} {v : Value} {n : Nat} {xs : List Value} {b : Nat} {cs : Array Value} {fr : Nat × Nat} (hown : w.ownsRow B e sz v n xs) (hb : w.heap[b]? = some (.cells cs T fr)) (hTe : T ≠ e) : v.ownBlock ≠ some b := by
  intro he
  rcases hown.2 with ⟨rfl, _⟩ | ⟨g, cap, cur, rfl, _, hg, _⟩
  · cases he
  · simp only [Value.ownBlock, Option.some.injEq] at he
    subst he
    rw [hb] at hg
    cases hg
    exact hTe rfl
theorem own_own_ne {w : World} {B B' sz sz' : Nat} {e e' : TypeId} {v v' : Value} {n n' : Nat} {xs xs' : List Value} (h : w.ownsRow B e sz v n xs) (h' : w.ownsRow B' e' sz' v' n' xs') (hT : e ≠ e') {k : Nat} (hk : v.ownBlock = some k) : v'.ownBlock ≠ some k := by
  rcases h.2 with ⟨rfl, _⟩ | ⟨g, cap, cur, rfl, _, hg, _⟩
  · cases hk
  · simp only [Value.ownBlock, Option.some.injEq] at hk
    subst hk
    exact own_ne h' hg hT
def abc : Nat → ByteArray
  | 0 => ⟨#[97]⟩
  | 1 => ⟨#[98]⟩
  | _ => ⟨#[99]⟩
theorem abc_small (q : Nat) : (abc q).size ≤ 4096 := by unfold abc; split <;> decide
theorem abc_at {w : World} {b q : Nat} {t : TypeId} (h : w.heap[b]? = some (.cells #[.string ⟨#[97]⟩, .string ⟨#[98]⟩, .string ⟨#[99]⟩] t (0, 0))) (hq : q < 3) : w.cell? ⟨b, q, none⟩ = some (.string (abc q)) := by
  obtain rfl | rfl | rfl : q = 0 ∨ q = 1 ∨ q = 2 := by omega
  · exact (c3 h).1
  · exact (c3 h).2.1
  · exact (c3 h).2.2
theorem due_all (t : Int) : ∀ (L : List (Int × Int × ByteArray)), (∀ (k : Nat) (p : Int × Int × ByteArray), L[k]? = some p → p.1 = t) → due t L = L.length
  | [], _ => rfl
  | p :: L, h => by
    have h0 := h 0 p (by simp)
    unfold due
    rw [if_pos h0, due_all t L (fun k q hq => h (k + 1) q (by simpa using hq))]
    simp
/-- The state of a tick under way. -/
def At (now ord : Int) (L : List (Int × Int × ByteArray)) : Prop := Good now ord L ∧ ∀ (k : Nat) (p : Int × Int × ByteArray), L[k]? = some p → p.1 = now + 1
theorem At.le {now ord : Int} {L : List (Int × Int × ByteArray)} (h : At now ord L) : ∀ (k : Nat) (p : Int × Int × ByteArray), L[k]? = some p → p.1 ≤ now + 1 + 0 := fun k p hp => by have := h.2 k p hp; omega
theorem At.more {now ord : Int} {L : List (Int × Int × ByteArray)} (h : At now ord L) (s : ByteArray) (n : Nat) (n1 : n ≤ 1) (hs : s.size ≤ 4096) (hl : L.length ≤ 100) (hw : now ≤ 1000) (ho : ord ≤ 1000) : At now (ord + 1) (L ++ news (now + 1 + 0) ord s n) := by
  refine ⟨good_more h.1 h.le (by omega) n hs (by omega) (by omega) (by omega), fun k p hp => ?_⟩
  rcases both_get hp with h1 | ⟨_, h1⟩
  · exact h.2 k p h1
  · obtain ⟨h2, rfl⟩ := news_get h1
    simp only
    omega
theorem dat_news1 (L : List (Int × Int × ByteArray)) (x y : Int) (s : ByteArray) : dat (L ++ news x y s 1) = dat L ++ [s] := by simp [dat, news]
end Lnk
namespace Laws
open Lnk
set_option maxHeartbeats 8000000 in
set_option maxRecDepth 100000 in
theorem linkOrder_walk (a0 : Option Addr) (len0 cap0 : Nat) (z0 : List Int) (w : World) (w0 : Buf.IsRow .i64 w a0 len0 cap0 z0) :
    Calls Try.prog 4 #[.slice a0 len0 cap0] w fun e w' => e = .returned (.bool true) ∧ Below w.heap.size w w' := by
  obtain ⟨i0, hi, hz0, hz1, hz2⟩ := info_parts infoS
  by_cases hs : len0 ≤ 500
  · have hd : decide ((len0 : Int) ≤ 500) = true := by simp; omega
    go_enter Try.func4, Try.ntmps4
    go_wp2_with (first | (go_at_call 5; refine (light_any _ _ _ _).mono ?_; rintro e w1 ⟨rfl, rfl⟩; rw [hd]) | (go_at_call 7; refine (roll_any a0 len0 cap0 z0 _ w0 hs).mono ?_; rintro e w2 ⟨rfl, hdi⟩))
    have L0 := Lib.hid (Dice.Left.refl hdi)
    have H := Lib.hid hdi
    have hlt := hdi.lt
    clear hdi
    refine (Lnk.new_any _).mono ?_
    rintro e w3 ⟨rfl, hb3⟩
    replace L0 := Lib.hid (L0.out.below hb3)
    have z3 := hb3.size
    clear hb3
    have P4 := Lib.hid (heap_alloc_new w3 (.cells #[.int .i64 0, .int .i64 0, .slice none 0 0] 29))
    replace L0 := Lib.hid (L0.out.below (new_block (.cells #[.int .i64 0, .int .i64 0, .slice none 0 0] 29)))
    go_wp2_with fail
    generalize w3.alloc (.cells #[.int .i64 0, .int .i64 0, .slice none 0 0] 29) = w4 at *
    generalize w3.heap.size = b4 at *
    have hbg : b4 ≠ w1.heap.size := by omega
    go_loopw [5] (fun i wr => ∃ (j : Nat) (ord : Int) (r : Value), i = .int .i64 (j : Int) ∧ j ≤ 6 ∧ 0 ≤ ord ∧ ord ≤ 3 * j ∧ Hid (OwnT wr w2.heap.size r []) ∧ Hid (wr.heap[b4]? = some (.cells #[.int .i64 (j : Int), .int .i64 ord, r] 29 (0, 0))) ∧ Hid (Dice.Left w1 w2 wr w1.heap.size a0 len0 cap0 z0)) (fun i _ => (6 - intOf i).toNat)
    case atStart => exact ⟨0, 0, _, rfl, by omega, by omega, by omega, Lib.hid (World.ownsRow_nil _ _ _ _), P4, L0⟩
    case round =>
      clear P4 L0
      obtain ⟨j, ord, r, rfl, hj, o0, o1, O, P4, L0⟩ := hrel
      obtain ⟨ra, rm, rc, rfl, hrm⟩ := own_letter O.out
      by_cases hj6 : j < 6
      · have hj6' : (j : Int) < 6 := by omega
        go_wp2_with fail
        refine (next_any 4 L0.out.di (by omega) (by omega)).mono ?_
        rintro e w5 ⟨⟨m0, rfl, m1, m2⟩, hl⟩
        obtain ⟨m, rfl⟩ := Int.eq_ofNat_of_zero_le m1
        replace O := Lib.hid (Lnk.own_left O.out L0.out.di (by decide) hl)
        replace P4 := Lib.hid (lblk hl P4.out hbg)
        replace L0 := Lib.hid (L0.out.trans hl)
        clear hl
        obtain ⟨wo, rfl⟩ : ∃ wo : World, wo = wr := ⟨_, rfl⟩
        have A0 : Hid (At (j : Int) ord []) := Lib.hid ⟨⟨by omega, by omega, by omega, by omega, by simp, fun k p hp => by simp at hp, fun k p q hp hq => by simp at hp⟩, fun k p hp => by simp at hp⟩
        go_wp2_with fail
        go_loopw [7, 6] (fun k s wr => ∃ (m : Nat) (ord : Int) (r : Value) (L : List (Int × Int × ByteArray)), k = .int .i64 (m : Int) ∧ L.length + m ≤ 3 ∧ 0 ≤ ord ∧ ord + m ≤ 3 * j + 3 ∧ Hid (OwnT wr w2.heap.size r L) ∧ Hid (At (j : Int) ord L) ∧ Hid (OwnS wr w2.heap.size s (dat L)) ∧ Hid (wr.heap[b4]? = some (.cells #[.int .i64 (j : Int), .int .i64 ord, r] 29 (0, 0))) ∧ Hid (Dice.Left w1 w2 wr w1.heap.size a0 len0 cap0 z0)) (fun k _ _ => (intOf k).toNat)
        case atStart => exact ⟨m, ord, _, [], rfl, by simp; omega, o0, by omega, O, A0, Lib.hid (World.ownsRow_nil _ _ _ _), P4, L0⟩
        case round =>
          clear O A0 P4 L0 o0 o1 m1 m2 hrm
          obtain ⟨m, ord, r, L, rfl, hm, o0, o1, O, A, SO, P4, L0⟩ := hrel
          obtain ⟨ra, rm, rc, rfl, hrm⟩ := own_letter O.out
          by_cases hm0 : 0 < m
          · have hm0' : (0 : Int) < m := by omega
            have hL3 : L.length ≤ 2 := by omega
            obtain ⟨m', rfl⟩ : ∃ m', m = m' + 1 := ⟨m - 1, by omega⟩
            have T0 := Lib.hid (heap_alloc_new wr (.cells #[.string ⟨#[97]⟩, .string ⟨#[98]⟩, .string ⟨#[99]⟩] 9))
            have Y0 : Hid (Below wr.heap.size wr (wr.alloc (.cells #[.string ⟨#[97]⟩, .string ⟨#[98]⟩, .string ⟨#[99]⟩] 9))) := Lib.hid (new_block _)
            have LA := Lib.hid (L0.out.below Y0.out)
            have hwg : wr.heap.size ≠ w1.heap.size := by have := L0.out.di.lt; omega
            go_wp2_with fail
            refine (next_any 3 LA.out.di (by omega) (by omega)).mono ?_
            rintro e w6 ⟨⟨q0, rfl, q1, q2⟩, hl⟩
            obtain ⟨q, rfl⟩ := Int.eq_ofNat_of_zero_le q1
            have TC := abc_at (lblk hl T0.out hwg) (show q < 3 by omega)
            have hsm := abc_small q
            generalize abc q = s at TC hsm
            replace O := Lib.hid (Lnk.own_left (own_below O.out Y0.out) LA.out.di (by decide) hl)
            replace SO := Lib.hid (Lnk.own_left (own_below SO.out Y0.out) LA.out.di (by decide) hl)
            replace P4 := Lib.hid (lblk hl (hb Y0.out P4.out) hbg)
            replace L0 := Lib.hid (LA.out.trans hl)
            clear hl T0 Y0 LA q1
            go_wp2_with fail
            refine (next_any 3 L0.out.di (by omega) (by omega)).mono ?_
            rintro e w7 ⟨⟨d, rfl, d1, d2⟩, hl⟩
            replace O := Lib.hid (Lnk.own_left O.out L0.out.di (by decide) hl)
            replace SO := Lib.hid (Lnk.own_left SO.out L0.out.di (by decide) hl)
            replace P4 := Lib.hid (lblk hl P4.out hbg)
            replace L0 := Lib.hid (L0.out.trans hl)
            clear hl TC q2
            obtain ⟨n, bb, hdb, hn, hn1, hbn⟩ : ∃ (n : Nat) (bb : Bool), (d == 0) = bb ∧ (n : Int) = (if bb then 0 else 1 + 0) ∧ n ≤ 1 ∧ (bb = true ∧ n = 0 ∨ bb = false ∧ n = 1) := by
              by_cases h0 : d = 0
              · exact ⟨0, true, by simp [h0], by simp, by omega, .inl ⟨rfl, rfl⟩⟩
              · exact ⟨1, false, by simp [h0], by simp, by omega, .inr ⟨rfl, rfl⟩⟩
            have F7 := Lib.hid (heap_alloc_new w7 (.cells #[.bool bb, .int .i64 0, .int .i64 0] 34))
            have Y7 : Hid (Below w7.heap.size w7 (w7.alloc (.cells #[.bool bb, .int .i64 0, .int .i64 0] 34))) := Lib.hid (new_block _)
            replace O := Lib.hid (own_below O.out Y7.out)
            replace SO := Lib.hid (own_below SO.out Y7.out)
            replace P4 := Lib.hid (hb Y7.out P4.out)
            replace L0 := Lib.hid (L0.out.below Y7.out)
            go_upto_region 14 with fail
            clear Y7 d1 d2
            generalize w7.alloc (.cells #[.bool bb, .int .i64 0, .int .i64 0] 34) = w8 at *
            generalize w7.heap.size = b9 at *
            clear hdb
            obtain ⟨k0, k1, k2⟩ := c3 P4.out
            obtain ⟨l0, l1, l2⟩ := c3 F7.out
            have SE := Lib.hid (send_end (j : Int) ord 0 0 s bb n hn A.out.1 (its_of_own O.out) A.out.le (by omega) (by omega) (by omega) (by omega) hsm (by omega) (by omega) (by omega))
            go_wp2_with fail
            refine SE.out.mono ?_
            rintro e w9 ⟨⟨r9, rfl, o9⟩, hb9⟩
            have zz := L0.out.far.size
            replace O := Lib.hid (own_mono o9 (B' := w2.heap.size) (by omega))
            replace A := Lib.hid (A.out.more s n hn1 hsm (by omega) (by omega) (by omega))
            replace SO := Lib.hid (own_below SO.out hb9)
            replace P4 := Lib.hid (hb hb9 P4.out)
            replace F7 := Lib.hid (hb hb9 F7.out)
            replace L0 := Lib.hid (L0.out.below hb9)
            clear hb9 o9 k0 k1 k2 l0 l1 l2 SE hrm hn
            obtain ⟨r9a, r9m, r9c, rfl, h9⟩ := own_letter O.out
            have N10 := Lib.hid (heap_alloc_new w9 (.cells #[.int .i64 (j : Int), .int .i64 (ord + 1), .slice r9a r9m r9c] 29))
            have Y10 : Hid (Below w9.heap.size w9 (w9.alloc (.cells #[.int .i64 (j : Int), .int .i64 (ord + 1), .slice r9a r9m r9c] 29))) := Lib.hid (new_block _)
            replace O := Lib.hid (own_below O.out Y10.out)
            replace SO := Lib.hid (own_below SO.out Y10.out)
            replace P4 := Lib.hid (hb Y10.out P4.out)
            replace F7 := Lib.hid (hb Y10.out F7.out)
            replace L0 := Lib.hid (L0.out.below Y10.out)
            go_upto_region 15 with fail
            clear Y10
            generalize w9.alloc (.cells #[.int .i64 (j : Int), .int .i64 (ord + 1), .slice r9a r9m r9c] 29) = w10 at *
            generalize w9.heap.size = b10 at *
            obtain ⟨k0, k1, k2⟩ := c3 P4.out
            obtain ⟨j0, j1, j2⟩ := f3 P4.out
            obtain ⟨n0, n1, n2⟩ := c3 N10.out
            have O11 := Lib.hid (own_ty3 O.out P4.out (by decide) (.int .i64 (j : Int)) (.int .i64 (ord + 1)) (.slice r9a r9m r9c))
            have S11 := Lib.hid (own_ty3 SO.out P4.out (by decide) (.int .i64 (j : Int)) (.int .i64 (ord + 1)) (.slice r9a r9m r9c))
            have P11 := Lib.hid (st3all P4.out (.int .i64 (j : Int)) (.int .i64 (ord + 1)) (.slice r9a r9m r9c))
            have hne9 : b9 ≠ b4 := by
              intro e
              have h1 := F7.out
              rw [e, P4.out] at h1
              simp at h1
            have F11 := Lib.hid (st_far3 F7.out hne9 (.int .i64 (j : Int)) (.int .i64 (ord + 1)) (.slice r9a r9m r9c))
            have L11 := Lib.hid (Dice.Left.past H.out L0.out (below_set3 (Below.refl w2.heap.size w10) (by omega : w2.heap.size ≤ b4) (.int .i64 (j : Int)) (.int .i64 (ord + 1)) (.slice r9a r9m r9c)))
            go_upto_region 18 with fail
            clear k0 k1 k2 j0 j1 j2 n0 n1 n2 O SO P4 F7 L0 N10
            generalize ((w10.setCell ⟨b4, 0, none⟩ (.int .i64 (j : Int))).setCell ⟨b4, 1, none⟩ (.int .i64 (ord + 1))).setCell ⟨b4, 2, none⟩ (.slice r9a r9m r9c) = w11 at *
            obtain ⟨l0, l1, l2⟩ := c3 F11.out
            obtain ⟨sa, sm, sc, rfl, hsm'⟩ := own_letter S11.out
            rcases hbn with ⟨rfl, rfl⟩ | ⟨rfl, rfl⟩
            · have eL : L ++ news ((j : Int) + 1 + 0) ord s 0 = L := by simp [news]
              have O12 : Hid (OwnT w11 w2.heap.size (.slice r9a r9m r9c) L) := Lib.hid (by have := O11.out; rw [eL] at this; exact this)
              have A12 : Hid (At (j : Int) (ord + 1) L) := Lib.hid (by have := A.out; rw [eL] at this; exact this)
              clear eL A O11
              go_wp2_with fail
              go_roundw
              case rel => exact ⟨m', ord + 1, _, L, by go_num, by omega, by omega, by omega, O12, A12, S11, P11, L11⟩
              case measure => simp [intOf]
            · have hsm2 : sm ≤ 1000 := by rw [hsm'.out]; simp [dat]; omega
              have NB := Lib.hid (World.news_of_block (heap_alloc_new w11 (.cells #[.string s] 9)))
              have W6 : Hid (Below w11.heap.size w11 (w11.alloc (.cells #[.string s] 9))) := Lib.hid (new_block _)
              have OB : Hid ((w11.alloc (.cells #[.string s] 9)).ownsRow w2.heap.size 9 1 (.slice sa sm sc) sm ((dat L).map Value.string)) := Lib.hid (by have h := own_below S11.out W6.out; rw [← hsm'.out] at h; exact h)
              have one : Hid (∀ u ∈ [Value.string s], u.oneCell' = true) := Lib.hid (by simp; rfl)
              have m1 : Hid (sm + 1 ≤ maxLen) := Lib.hid (by unfold maxLen; omega)
              have m2 : Hid ((sm + 1) * 16 ≤ 140737488355328) := Lib.hid (by omega)
              have hsz : w2.heap.size ≤ (w11.alloc (.cells #[.string s] 9)).heap.size := by have := L11.out.far.size; simp; omega
              have OK : Hid (∀ r w', w'.ownsRow w2.heap.size 9 1 r (sm + 1) ((dat L).map Value.string ++ [Value.string s]) → OwnS w' w2.heap.size r (dat (L ++ news ((j : Int) + 1 + 0) ord s 1))) := Lib.hid fun r w' hh => by
                unfold OwnS; rw [dat_news1, List.map_append, List.length_append]; simpa [hsm'.out] using hh
              go_wp2_with (at_builtin; (refine wpList_append_own _ rfl (.tmp 54) (.tmp 56) 41 rfl w2.heap.size 9 i0 (.string ⟨#[]⟩) 1 16 Try.underlying41 hi hz0 hz1 hz2 rfl (by decide) _ sm _ rfl OB.out ⟨w11.heap.size, 0, none⟩ 1 1 _ rfl rfl NB.out one.out m1.out m2.out hsz ?_; intro v' w12 ho hg7 _))
              have S12 := Lib.hid (OK.out _ _ ho)
              have hlast : ∀ q, (Value.slice sa sm sc).ownBlock = some q → w2.heap.size ≤ q := fun q hq => (OB.out.lt q hq).1
              have hg : (w11.alloc (.cells #[.string s] 9)).grownBy w12 (Value.slice sa sm sc).ownBlock := hg7
              have P12 := Lib.hid ((hg.block b4 (by have := (Array.getElem?_eq_some_iff.1 P11.out).1; simp; omega) (fun he => own_ne OB.out (hb W6.out P11.out) (by decide) he.symm)).trans (hb W6.out P11.out))
              have O12 := Lib.hid (own_kept (own_below O11.out W6.out) fun k hk => hg.block k ((own_below O11.out W6.out).lt k hk).2 (fun he => own_own_ne (own_below O11.out W6.out) OB.out (by decide) hk he.symm))
              have L12 := Lib.hid (Dice.Left.past H.out (L11.out.below W6.out) ⟨hg.os, hg.tape, hg.output, hg.size, fun k hk => hg.block k (by have := L11.out.far.size; simp; omega) (fun he => by have := hlast k he.symm; omega)⟩)
              clear ho hg hg7 NB W6 OB OK O11 P11 L11 S11
              go_roundw
              case rel => exact ⟨m', ord + 1, _, L ++ news ((j : Int) + 1 + 0) ord s 1, by go_num, by simp [news_len]; omega, by omega, by omega, O12, A, S12, P12, L12⟩
              case measure => simp [intOf]
          · obtain rfl : m = 0 := by omega
            obtain ⟨k0, k1, k2⟩ := c3 P4.out
            have T := tick_any (j : Int) ord A.out.1 (its_of_own O.out) (by omega) (by omega)
            rw [due_all _ _ A.out.2, List.drop_length, List.take_length] at T
            replace T := Lib.hid T
            obtain ⟨sa, sm, sc, rfl, hsm'⟩ := own_letter SO.out
            go_wp2_with fail
            refine T.out.mono ?_
            rintro e w9 ⟨⟨r9, l9, rfl, o9, s9⟩, hb9⟩
            have zz := L0.out.far.size
            replace SO := Lib.hid (own_below SO.out hb9)
            replace P4 := Lib.hid (hb hb9 P4.out)
            replace L0 := Lib.hid (L0.out.below hb9)
            obtain ⟨r9a, r9m, r9c, rfl, h9⟩ := own_letter o9
            obtain ⟨l9a, l9m, l9c, rfl, h9'⟩ := own_letter s9
            replace O := Lib.hid (own_mono o9 (B' := w2.heap.size) (by omega))
            replace s9 := Lib.hid s9
            clear hb9 o9 k0 k1 k2 T hrm
            have N10 := Lib.hid (heap_alloc_new w9 (.cells #[.int .i64 ((j : Int) + 1), .int .i64 ord, .slice r9a r9m r9c] 29))
            have Y10 : Hid (Below w9.heap.size w9 (w9.alloc (.cells #[.int .i64 ((j : Int) + 1), .int .i64 ord, .slice r9a r9m r9c] 29))) := Lib.hid (new_block _)
            replace O := Lib.hid (own_below O.out Y10.out)
            replace SO := Lib.hid (own_below SO.out Y10.out)
            replace s9 := Lib.hid (own_below s9.out Y10.out)
            replace P4 := Lib.hid (hb Y10.out P4.out)
            replace L0 := Lib.hid (L0.out.below Y10.out)
            go_upto_region 21 with fail
            clear Y10
            generalize w9.alloc (.cells #[.int .i64 ((j : Int) + 1), .int .i64 ord, .slice r9a r9m r9c] 29) = w10 at *
            generalize w9.heap.size = b10 at *
            have SM := Lib.hid (same_any s9.out SO.out (by simp [dat]; omega))
            go_wp2_with fail
            refine SM.out.mono ?_
            rintro e w11 ⟨rfl, hb11⟩
            replace O := Lib.hid (own_below O.out hb11)
            replace P4 := Lib.hid (hb hb11 P4.out)
            replace N10 := Lib.hid (hb hb11 N10.out)
            replace L0 := Lib.hid (L0.out.below hb11)
            clear hb11 SM SO s9
            obtain ⟨k0, k1, k2⟩ := c3 P4.out
            obtain ⟨j0, j1, j2⟩ := f3 P4.out
            obtain ⟨n0, n1, n2⟩ := c3 N10.out
            go_wp2_with fail
            go_roundw
            case rel => exact ⟨j + 1, ord, _, by go_num, by omega, o0, by omega, Lib.hid (own_ty3 O.out P4.out (by decide) _ _ _), Lib.hid (by have h := st3all P4.out (.int .i64 ((j : Int) + 1)) (.int .i64 ord) (.slice r9a r9m r9c); simpa using h), Lib.hid (Dice.Left.past H.out L0.out (below_set3 (Below.refl w2.heap.size _) (by omega : w2.heap.size ≤ b4) _ _ _))⟩
            case measure => simp [intOf]; omega
      · obtain rfl : j = 6 := by omega
        go_wp2_with (go_at_call 6; refine (Lnk.sane_any _).mono ?_; rintro e w9 ⟨rfl, hb⟩)
        go_ret
        exact ⟨rfl, Buf.then_ L0.out.di.bel hb⟩
  · have hd : decide ((len0 : Int) ≤ 500) = false := by simp; omega
    go_enter Try.func4, Try.ntmps4
    go_wp2_with (first | (go_at_call 5; refine (light_any _ _ _ _).mono ?_; rintro e w1 ⟨rfl, rfl⟩; rw [hd]) | (go_at_call 6; refine (Lnk.sane_any _).mono ?_; rintro e w2 ⟨rfl, hb⟩))
    go_ret
    exact ⟨rfl, hb⟩
end Laws
end Go.Proofs.Ytmkemhalllihmaa
