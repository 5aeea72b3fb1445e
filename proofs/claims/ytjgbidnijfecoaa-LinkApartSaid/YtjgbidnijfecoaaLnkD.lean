/- slices.Clone, BinarySearchFunc, Insert of messages; link.insert at the end. -/
import Derived.Test.YtjgbidnijfecoaaLnkC
import Derived.Lib.SliceRun
set_option linter.unusedVariables false
set_option linter.unusedSimpArgs false
namespace Go.Proofs.Ytjgbidnijfecoaa
open Go.RowKit Wi Dice
namespace Lnk
theorem infoT : (Try.prog.info? 55).map (fun i => (i.zero, i.size, i.bytes)) = some (some (.agg #[.int .i64 0, .int .i64 0, .string ⟨#[]⟩]), 3, 32) := by kernel_rfl
/-- A list of messages that can be read, wherever it begins. -/
def Rd (w : World) (v : Value) (L : List (Int × Int × ByteArray)) : Prop :=
  (v = .slice none 0 0 ∧ L = []) ∨ ∃ (ad : Addr) (c : Nat), v = .slice (some ad) L.length c ∧ L.length ≤ c ∧ ∀ j u, (cellsT L)[j]? = some u → w.cell? (ad.add j) = some u
theorem own_kept {w w' : World} {B sz : Nat} {e : TypeId} {v : Value} {n : Nat} {xs : List Value} (h : w.ownsRow B e sz v n xs) (hb : ∀ k, v.ownBlock = some k → w'.heap[k]? = w.heap[k]?) : w'.ownsRow B e sz v n xs := by
  refine ⟨h.1, h.2.imp id ?_⟩
  rintro ⟨g, cap, cur, rfl, h1, h2, h3⟩
  exact ⟨g, cap, cur, rfl, h1, (hb g rfl).trans h2, h3⟩
theorem own_below {w w' : World} {B sz : Nat} {e : TypeId} {v : Value} {n : Nat} {xs : List Value} (h : w.ownsRow B e sz v n xs) (hb : Below w.heap.size w w') : w'.ownsRow B e sz v n xs := own_kept h fun k hk => hb.block k (h.lt k hk).2
theorem own_mono {w : World} {B B' sz : Nat} {e : TypeId} {v : Value} {n : Nat} {xs : List Value} (h : w.ownsRow B e sz v n xs) (hB : B' ≤ B) : w.ownsRow B' e sz v n xs :=
  ⟨h.1, h.2.imp id fun ⟨g, cap, cur, h1, h2, h3⟩ => ⟨g, cap, cur, h1, by omega, h3⟩⟩
/-- The shape of what owns a row. -/
theorem own_shape {w : World} {B sz : Nat} {e : TypeId} {v : Value} {n : Nat} {xs : List Value} (h : w.ownsRow B e sz v n xs) :
    (v = .slice none 0 0 ∧ n = 0) ∨ ∃ g c, v = .slice (some ⟨g, 0, none⟩) n c ∧ n ≤ c ∧ c ≤ maxLen ∧ g < w.heap.size ∧ B ≤ g := by
  rcases h.2 with h | ⟨g, cap, cur, rfl, h1, h2, h3, h4, _⟩
  · exact .inl h
  · exact .inr ⟨g, cap, rfl, h3, h4, (Array.getElem?_eq_some_iff.1 h2).1, h1⟩
theorem rd_of_its {B : Nat} {w : World} {v : Value} {L : List (Int × Int × ByteArray)} (h : Its B w v L) : Rd w v L := by
  rcases h with h | ⟨g, c, rfl, h1, h2, h3, h4, h5⟩
  · exact .inl h
  · refine .inr ⟨_, c, rfl, h1, fun j u hu => ?_⟩
    have hj : j < L.length * 3 := by rw [← cellsT_length]; exact (List.getElem?_eq_some_iff.1 hu).1
    rw [Addr.add_lit, Nat.zero_add]
    obtain ⟨k, r, rfl, hr⟩ : ∃ k r, j = k * 3 + r ∧ r < 3 := ⟨j / 3, j % 3, by omega, by omega⟩
    have hk : k < L.length := by omega
    obtain ⟨a, b, c⟩ := cellsT_get L k _ (List.getElem?_eq_getElem hk)
    obtain ⟨a', b', c'⟩ := h5 k _ (List.getElem?_eq_getElem hk)
    obtain rfl | rfl | rfl : r = 0 ∨ r = 1 ∨ r = 2 := by omega
    · rw [Nat.add_zero] at hu ⊢; rw [a', ← hu, a]
    · rw [b', ← hu, b]
    · rw [c', ← hu, c]
theorem Rd.below {w w' : World} {v : Value} {L : List (Int × Int × ByteArray)} (h : Rd w v L) (hb : Below w.heap.size w w') : Rd w' v L := by
  refine h.imp id ?_
  rintro ⟨ad, c, h1, h2, h3⟩
  exact ⟨ad, c, h1, h2, fun j u hu => (hb.cell (World.block_lt_of_cell? w _ (h3 j u hu))).trans (h3 j u hu)⟩
theorem clone_any {w : World} {v : Value} {L : List (Int × Int × ByteArray)} (h : Rd w v L) (h9 : L.length ≤ 1024) :
    Calls Try.prog 22 #[v] w fun e w' => (∃ r, e = .returned r ∧ OwnT w' w.heap.size r L) ∧ Below w.heap.size w w' := by
  obtain ⟨i0, hi, hz0, hz1, hz2⟩ := info_parts infoT
  have R := Lib.hid (h.below (new_block (w := w) (.cells #[] 55)))
  rcases h with ⟨rfl, rfl⟩ | ⟨ad, c, rfl, hc, h3⟩
  · have q : ∀ w : World, (binOp .eql 27 (.slice none 0 0) (.slice none 0 0)).run Try.prog w = .ok (.bool true) w := fun w => Lib.run_eql_slice_nil (P := Try.prog) w 27 55 none 0 0 0 0 rfl
    clear R
    go_enter Try.func22, Try.ntmps22
    go_wp2_with fail
    go_ret
    exact ⟨⟨_, rfl, World.ownsRow_nil _ _ _ _⟩, Below.refl _ _⟩
  · have q : ∀ w : World, (binOp .eql 27 (.slice (some ad) L.length c) (.slice none 0 0)).run Try.prog w = .ok (.bool false) w := fun w => Lib.run_eql_slice_nil (P := Try.prog) w 27 55 (some ad) L.length c 0 0 rfl
    have O : Hid ((w.alloc (.cells #[] 55)).ownsRow w.heap.size 55 3 (.slice (some ⟨w.heap.size, 0, none⟩) 0 0) 0 []) := Lib.hid (World.ownsRow_lit w #[] 0 (Nat.le_refl _) (by decide) rfl)
    have R' : Hid (∀ j u, (cellsT L)[j]? = some u → (w.alloc (.cells #[] 55)).cell? (ad.add j) = some u) := by
      rcases R.out with ⟨h, _⟩ | ⟨ad', c', h, _, h4⟩
      · cases h
      · cases h; exact Lib.hid h4
    have hl := Lib.hid (cellsT_length L)
    have h1 := Lib.hid (cellsT_one_cell L)
    have m1 : Hid (0 + L.length ≤ maxLen) := Lib.hid (by unfold maxLen; omega)
    have m2 : Hid ((0 + L.length) * 32 ≤ 140737488355328) := Lib.hid (by omega)
    have hsz : w.heap.size ≤ (w.alloc (.cells #[] 55)).heap.size := by simp
    have OK : Hid (∀ r w', w'.ownsRow w.heap.size 55 3 r (0 + L.length) ([] ++ cellsT L) → OwnT w' w.heap.size r L) := Lib.hid fun r w' hh => by simpa [OwnT] using hh
    clear R h3
    go_enter Try.func22, Try.ntmps22
    go_wp2_with (at_builtin; (refine wpList_append_own _ rfl (.tmp 5) (.tmp 6) 27 rfl w.heap.size 55 i0 (.agg #[.int .i64 0, .int .i64 0, .string ⟨#[]⟩]) 3 32 Try.underlying27 hi hz0 hz1 hz2 rfl (by decide) _ 0 [] rfl O.out ad L.length c (cellsT L) rfl hl.out R'.out h1.out m1.out m2.out hsz ?_; intro v' w' ho hg _))
    go_ret
    refine ⟨⟨_, rfl, OK.out _ _ ho⟩, ?_⟩
    refine Below.grown (new_block (w := w) (.cells #[] 55)) hg hsz fun k hk => ?_
    exact (O.out.lt k hk).1
set_option maxRecDepth 100000 in
set_option maxHeartbeats 4000000 in
theorem search_end {B : Nat} {w : World} {v : Value} {L : List (Int × Int × ByteArray)} (x y : Int) (s : ByteArray) (h : Its B w v L) (hl : ∀ (k : Nat) (p : Int × Int × ByteArray), L[k]? = some p → p.1 < x ∨ (p.1 = x ∧ p.2.1 < y)) (h9 : L.length ≤ 1024) :
    Calls Try.prog 27 #[v, .agg #[.int .i64 x, .int .i64 y, .string s], .func (.func 26) #[] #[]] w fun e w' => e = .returned (.tuple #[.int .i64 (L.length : Nat), .bool false]) ∧ Below w.heap.size w w' := by
  have B0 := Lib.hid (heap_alloc_new w (.cells #[.int .i64 x, .int .i64 y, .string s] 55))
  have W0 : Hid (Below w.heap.size w (w.alloc (.cells #[.int .i64 x, .int .i64 y, .string s] 55))) := Lib.hid (new_block _)
  have HL := Lib.hid hl
  clear hl
  rcases h with ⟨rfl, rfl⟩ | ⟨g, c, rfl, hc, hc2, hB, hg, hcell⟩
  · go_enter Try.func27, Try.ntmps27
    go_wp2_with fail
    go_loop [9, 10] (fun i j => i = .int .i64 0 ∧ j = .int .i64 0) (fun _ _ => 0)
    case atStart => exact ⟨rfl, rfl⟩
    case round =>
      obtain ⟨rfl, rfl⟩ := hrel
      go_wp2_with fail
      go_quiet (fail)
      go_wp2
      go_ret2
      exact ⟨rfl, Buf.below_drewN W0.out _⟩
  · have HC := Lib.hid hcell
    obtain ⟨n, hn⟩ : ∃ n, n = L.length := ⟨_, rfl⟩
    rw [← hn] at h9 hc ⊢
    have Hn := Lib.hid hn
    clear hcell hc2 hn
    go_enter Try.func27, Try.ntmps27
    go_wp2_with fail
    go_loopw [9, 10] (fun i j wr => ∃ k : Nat, k ≤ n ∧ i = .int .i64 k ∧ j = .int .i64 n ∧ Hid (Below w.heap.size w wr) ∧ Hid (wr.heap[w.heap.size]? = some (.cells #[.int .i64 x, .int .i64 y, .string s] 55 (0, 0)))) (fun i _ _ => n - (intOf i).toNat)
    case atStart => exact ⟨0, Nat.zero_le _, rfl, rfl, W0, B0⟩
    case round =>
      clear B0 W0
      obtain ⟨k, hk, rfl, rfl, HB, B0⟩ := hrel
      by_cases hlt : k < n
      · obtain ⟨h, hh⟩ : ∃ h : Nat, ((k : Int) + n) / 2 = h := ⟨((k : Int) + n).toNat / 2, by omega⟩
        have h1 : k ≤ h := by omega
        have h2 : h < n := by omega
        obtain ⟨⟨at2, od2, s2⟩, hp2⟩ : ∃ p, L[h]? = some p := ⟨L[h]'(by rw [← Hn.out]; omega), List.getElem?_eq_getElem _⟩
        obtain ⟨q0, q1, q2⟩ := HC.out h _ hp2
        have hcmp := Lib.hid (cmp_lt (HL.out h _ hp2))
        have E4 := Lib.hid fun w' (h' : Below wr.heap.size wr w') => c3 (hb h' B0.out)
        have E5 : Hid (∀ w', Below wr.heap.size wr w' → w'.cell? ⟨g, h * 3, none⟩ = some (.int .i64 at2) ∧ w'.cell? ⟨g, h * 3 + 1, none⟩ = some (.int .i64 od2) ∧ w'.cell? ⟨g, h * 3 + 2, none⟩ = some (.string s2)) := Lib.hid fun w' hb' => by
          have hb2 := Buf.then_ HB.out hb'
          exact ⟨(hb2.cell (p := ⟨g, _, none⟩) hg).trans q0, (hb2.cell (p := ⟨g, _, none⟩) hg).trans q1, (hb2.cell (p := ⟨g, _, none⟩) hg).trans q2⟩
        have C2 := Lib.hid fun w' => compare_any at2 od2 x y (-1) s2 s hcmp.out w'
        clear q0 q1 q2 hp2
        go_wp2_with fail
        refine Buf.region_calm wr (by kernel_rfl) (by kernel_rfl) (Below.refl _ _) ?_
        repeat (go_big_quiet_step ((intro hC; first
            | (go_at_call 26; exact Buf.calm hC (C2.out _))
            | rfl
            | (simp only [(E4.out _ hC).1, (E4.out _ hC).2.1, (E4.out _ hC).2.2, Result.andThen_ok]; exact ⟨trivial, rfl⟩)
            | (simp only [(E5.out _ hC).1, (E5.out _ hC).2.1, (E5.out _ hC).2.2, Result.andThen_ok]; exact ⟨trivial, rfl⟩))))
        refine wpQuiet_nil ?_
        intro w3 hb3
        have B3 := Lib.hid (hb hb3 B0.out)
        have W3 := Lib.hid (Buf.then_ HB.out hb3)
        clear hb3 E4 E5
        go_wp2
        go_roundw
        case rel => exact ⟨h + 1, by omega, by go_num, rfl, W3, B3⟩
        case measure => simp [intOf]; omega
      · obtain rfl : k = n := by omega
        have hd : decide ((k : Int) < (k : Int)) = false := by simp
        go_wp2_with fail
        go_quiet (fail)
        go_wp2
        go_ret2
        exact ⟨rfl, Buf.below_drewN HB.out _⟩
set_option maxRecDepth 100000 in
set_option maxHeartbeats 4000000 in
theorem Insert_end {B : Nat} {w : World} {v : Value} {L : List (Int × Int × ByteArray)} (x y : Int) (s : ByteArray) (p : Nat) (h : OwnT w B v L) (hB : B ≤ w.heap.size) (hp : w.heap[p]? = some (.cells #[.int .i64 x, .int .i64 y, .string s] 55 (0, 0))) (h9 : L.length ≤ 1024) :
    Calls Try.prog 28 #[v, .int .i64 (L.length : Nat), .slice (some ⟨p, 0, none⟩) 1 1] w fun e w' => (∃ r, e = .returned r ∧ OwnT w' B r (L ++ [(x, y, s)])) ∧ w.grownBy w' v.ownBlock := by
  obtain ⟨i0, hi, hz0, hz1, hz2⟩ := info_parts infoT
  have O := Lib.hid h
  have N : Hid (∀ (j : Nat) (u : Value), [Value.int .i64 x, .int .i64 y, .string s][j]? = some u → w.cell? ((⟨p, 0, none⟩ : Addr).add j) = some u) := Lib.hid (World.news_of_block hp)
  have one : Hid (∀ u ∈ [Value.int .i64 x, .int .i64 y, .string s], u.oneCell' = true) := Lib.hid (by simp; exact ⟨rfl, rfl, rfl⟩)
  have m1 : Hid (L.length + 1 ≤ maxLen) := Lib.hid (by unfold maxLen; omega)
  have m2 : Hid ((L.length + 1) * 32 ≤ 140737488355328) := Lib.hid (by omega)
  have OK : Hid (∀ r w', w'.ownsRow B 55 3 r (L.length + 1) (cellsT L ++ [Value.int .i64 x, .int .i64 y, .string s]) → OwnT w' B r (L ++ [(x, y, s)])) := Lib.hid fun r w' hh => by
    unfold OwnT; rw [cellsT_append, cellsT_one]; simpa using hh
  obtain ⟨n, hn⟩ : ∃ n, n = L.length := ⟨_, rfl⟩
  have hs := own_shape h
  rw [← hn] at h9 hs m1 m2 OK ⊢
  have O' : Hid (w.ownsRow B 55 3 v n (cellsT L)) := Lib.hid (by rw [hn]; exact h)
  clear h hp hn O
  rcases hs with ⟨rfl, rfl⟩ | ⟨g, c, rfl, hc, hc2, hg, hBg⟩
  · go_enter Try.func28, Try.ntmps28
    go_wp2_with (at_builtin; (refine wpList_append_own _ rfl (.tmp 23) (.tmp 24) 27 rfl B 55 i0 (.agg #[.int .i64 0, .int .i64 0, .string ⟨#[]⟩]) 3 32 Try.underlying27 hi hz0 hz1 hz2 rfl (by decide) _ 0 _ rfl O'.out ⟨p, 0, none⟩ 1 1 _ rfl rfl N.out one.out m1.out m2.out hB ?_; intro v' w' ho hg _))
    go_ret
    exact ⟨⟨_, rfl, OK.out _ _ ho⟩, hg⟩
  · unfold maxLen at hc2
    by_cases hcn : c = n
    · subst hcn
      go_enter Try.func28, Try.ntmps28
      go_wp2_with (at_builtin; (refine wpList_append_own _ rfl (.tmp 23) (.tmp 24) 27 rfl B 55 i0 (.agg #[.int .i64 0, .int .i64 0, .string ⟨#[]⟩]) 3 32 Try.underlying27 hi hz0 hz1 hz2 rfl (by decide) _ c _ rfl O'.out ⟨p, 0, none⟩ 1 1 _ rfl rfl N.out one.out m1.out m2.out hB ?_; intro v' w' ho hg _))
      go_ret
      exact ⟨⟨_, rfl, OK.out _ _ ho⟩, hg⟩
    · have hcn' : n < c := by omega
      go_enter Try.func28, Try.ntmps28
      go_wp2_with (at_builtin; (refine wpList_append_own _ rfl (.tmp 23) (.tmp 24) 27 rfl B 55 i0 (.agg #[.int .i64 0, .int .i64 0, .string ⟨#[]⟩]) 3 32 Try.underlying27 hi hz0 hz1 hz2 rfl (by decide) _ n _ rfl O'.out ⟨p, 0, none⟩ 1 1 _ rfl rfl N.out one.out m1.out m2.out hB ?_; intro v' w' ho hg _))
      go_ret
      exact ⟨⟨_, rfl, OK.out _ _ ho⟩, hg⟩
end Lnk
end Go.Proofs.Ytjgbidnijfecoaa
