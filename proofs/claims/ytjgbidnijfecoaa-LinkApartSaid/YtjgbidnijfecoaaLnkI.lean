/- Where a message belongs in a wire; BinarySearchFunc; link.insert and Send in general. -/
import Derived.Test.YtjgbidnijfecoaaLnkH
import Derived.Test.YtjgbidnijfecoaaLnkF
set_option linter.unusedVariables false
set_option linter.unusedSimpArgs false
namespace Go.Proofs.Ytjgbidnijfecoaa
open Go.RowKit Wi Dice
namespace Lnk
abbrev T3 := Int × Int × ByteArray
def ls (p q : T3) : Prop := p.1 < q.1 ∨ (p.1 = q.1 ∧ p.2.1 < q.2.1)
instance (p q : T3) : Decidable (ls p q) := by unfold ls; infer_instance
theorem ls_trans {p q r : T3} (h : ls p q) (k : ls q r) : ls p r := by unfold ls at *; omega
theorem ls_asymm {p q : T3} (h : ls p q) : ¬ ls q p := by unfold ls at *; omega
def pos (m : T3) : List T3 → Nat
  | [] => 0
  | p :: L => if ls p m then pos m L + 1 else 0
theorem pos_le (m : T3) : ∀ L : List T3, pos m L ≤ L.length
  | [] => Nat.le_refl _
  | p :: L => by unfold pos; split <;> simp [pos_le m L]
theorem pos_at (m : T3) : ∀ (L : List T3), L.Pairwise ls → ∀ (k : Nat) (p : T3), L[k]? = some p → (ls p m ↔ k < pos m L)
  | [], _, k, p, h => by simp at h
  | q :: L, hs, k, p, h => by
    obtain ⟨h1, h2⟩ := List.pairwise_cons.1 hs
    unfold pos
    by_cases hq : ls q m
    · rw [if_pos hq]
      cases k with
      | zero => simp at h; subst h; simp [hq]
      | succ k =>
        rw [pos_at m L h2 k p (by simpa using h)]
        omega
    · rw [if_neg hq]
      cases k with
      | zero => simp at h; subst h; simp [hq]
      | succ k =>
        have hp : p ∈ L := List.mem_of_getElem? (by simpa using h)
        have := h1 p hp
        constructor
        · intro hm; exact absurd (ls_trans this hm) hq
        · intro hm; omega
theorem pairwise_of_asc : ∀ (L : List T3), (∀ (k : Nat) (p q : T3), L[k]? = some p → L[k + 1]? = some q → ls p q) → L.Pairwise ls
  | [], _ => List.Pairwise.nil
  | [p], _ => by simp
  | p :: q :: L, h => by
    have ih := pairwise_of_asc (q :: L) (fun k a b ha hb => h (k + 1) a b (by simpa using ha) (by simpa using hb))
    refine List.pairwise_cons.2 ⟨fun r hr => ?_, ih⟩
    have hpq := h 0 p q (by simp) (by simp)
    rcases List.mem_cons.1 hr with rfl | hr
    · exact hpq
    · exact ls_trans hpq ((List.pairwise_cons.1 ih).1 r hr)
theorem asc_of_pairwise {L : List T3} (h : L.Pairwise ls) (k : Nat) (p q : T3) (hp : L[k]? = some p) (hq : L[k + 1]? = some q) : ls p q := by
  obtain ⟨h1, rfl⟩ := List.getElem?_eq_some_iff.1 hp
  obtain ⟨h2, rfl⟩ := List.getElem?_eq_some_iff.1 hq
  exact List.pairwise_iff_getElem.1 h k (k + 1) h1 h2 (by omega)
theorem Good.pw {now ord : Int} {L : List T3} (G : Good now ord L) : L.Pairwise ls := pairwise_of_asc L fun k p q hp hq => G.asc k p q hp hq
def ins (m : T3) (L : List T3) : List T3 := put L (pos m L) m
theorem put_perm (L : List T3) (i : Nat) (m : T3) : (put L i m).Perm (m :: L) := by
  unfold put
  have h := List.perm_middle (a := m) (l₁ := L.take i) (l₂ := L.drop i)
  rwa [List.take_append_drop] at h
theorem ins_perm (m : T3) (L : List T3) : (ins m L).Perm (m :: L) := put_perm _ _ _
theorem take_pos {m : T3} {L : List T3} (h : L.Pairwise ls) {p : T3} (hp : p ∈ L.take (pos m L)) : ls p m := by
  obtain ⟨k, hk⟩ := List.mem_iff_getElem?.1 hp
  rw [List.getElem?_take] at hk
  split at hk
  · exact (pos_at m L h k p hk).2 (by assumption)
  · cases hk
theorem drop_pos {m : T3} {L : List T3} (h : L.Pairwise ls) {p : T3} (hp : p ∈ L.drop (pos m L)) : ¬ ls p m := by
  obtain ⟨k, hk⟩ := List.mem_iff_getElem?.1 hp
  rw [List.getElem?_drop] at hk
  intro hm
  have := (pos_at m L h _ p hk).1 hm
  omega
theorem ins_pw {m : T3} {L : List T3} (h : L.Pairwise ls) (hm : ∀ p ∈ L, ls p m ∨ ls m p) : (ins m L).Pairwise ls := by
  have h0 := h
  rw [← List.take_append_drop (pos m L) L, List.pairwise_append] at h0
  obtain ⟨h1, h2, h3⟩ := h0
  unfold ins put
  refine List.pairwise_append.2 ⟨h1, List.pairwise_cons.2 ⟨fun q hq => ?_, h2⟩, fun p hp q hq => ?_⟩
  · exact (hm q (List.mem_of_mem_drop hq)).resolve_left (drop_pos h hq)
  · rcases List.mem_cons.1 hq with rfl | hq
    · exact take_pos h hp
    · exact h3 p hp q hq
/-- The list behind so many of the messages that Send adds. -/
def insN (x y : Int) (s : ByteArray) (L : List T3) : Nat → List T3
  | 0 => L
  | n + 1 => ins (x + (n : Int), y, s) (insN x y s L n)
theorem insN_perm (x y : Int) (s : ByteArray) (L : List T3) : ∀ n, (insN x y s L n).Perm (news x y s n ++ L)
  | 0 => by simp [insN, news]
  | n + 1 => by
    rw [news_succ]
    refine (ins_perm _ _).trans (((insN_perm x y s L n).cons _).trans ?_)
    rw [List.append_assoc]
    exact (List.perm_middle (a := (x + (n : Int), y, s)) (l₁ := news x y s n) (l₂ := L)).symm
theorem insN_length (x y : Int) (s : ByteArray) (L : List T3) (n : Nat) : (insN x y s L n).length = L.length + n := by
  rw [(insN_perm x y s L n).length_eq, List.length_append, news_len]; omega
theorem news_mem {x y : Int} {s : ByteArray} {n : Nat} {p : T3} (h : p ∈ news x y s n) : ∃ k : Nat, k < n ∧ p = (x + (k : Int), y, s) := by
  obtain ⟨k, hk⟩ := List.mem_iff_getElem?.1 h
  exact ⟨k, (news_get hk).1, (news_get hk).2⟩
/-- No message of the list has the key of the next one. -/
theorem insN_apart {x y : Int} {s : ByteArray} {L : List T3} (hy : ∀ p ∈ L, p.2.1 < y) (n : Nat) : ∀ p ∈ insN x y s L n, ls p (x + (n : Int), y, s) ∨ ls (x + (n : Int), y, s) p := by
  intro p hp
  rcases List.mem_append.1 ((insN_perm x y s L n).mem_iff.1 hp) with h | h
  · obtain ⟨k, hk, rfl⟩ := news_mem h
    left; unfold ls; simp only; omega
  · have := hy p h
    unfold ls; simp only; omega
theorem insN_pw {x y : Int} {s : ByteArray} {L : List T3} (h : L.Pairwise ls) (hy : ∀ p ∈ L, p.2.1 < y) : ∀ n, (insN x y s L n).Pairwise ls
  | 0 => h
  | n + 1 => ins_pw (insN_pw h hy n) (insN_apart hy n)
theorem good_insN {now ord dl : Int} {s : ByteArray} {L : List T3} (G : Good now ord L) (d0 : 0 ≤ dl) (n : Nat) (hs : s.size ≤ 4096) (hn : L.length + n ≤ 1024) (h9 : now + 1 + dl + n ≤ 1000000) (ho : ord < 1000000) :
    Good now (ord + 1) (insN (now + 1 + dl) ord s L n) := by
  have hpw := G.pw
  obtain ⟨n0, n1, o0, o1, hl, it, asc⟩ := G
  have hy : ∀ p ∈ L, p.2.1 < ord := fun p hp => by
    obtain ⟨k, hk⟩ := List.mem_iff_getElem?.1 hp
    have := it k p hk; omega
  refine ⟨n0, n1, by omega, by omega, by rw [insN_length]; exact hn, fun k p hp => ?_, fun k p q hp hq => asc_of_pairwise (insN_pw hpw hy n) k p q hp hq⟩
  rcases List.mem_append.1 ((insN_perm _ ord s L n).mem_iff.1 (List.mem_of_getElem? hp)) with h | h
  · obtain ⟨k', hk, rfl⟩ := news_mem h
    simp only; omega
  · obtain ⟨k', hk⟩ := List.mem_iff_getElem?.1 h
    obtain ⟨a, b, c, d, e⟩ := it k' p hk
    exact ⟨a, b, c, d, by omega⟩
theorem cmp_gt {x1 y1 x2 y2 : Int} (h : x2 < x1 ∨ (x1 = x2 ∧ y2 < y1)) : (1 : Int) = if cmpI x1 x2 = 0 then cmpI y1 y2 else cmpI x1 x2 := by
  unfold cmpI
  rcases h with h | ⟨rfl, h⟩
  · simp [h, show ¬ x1 < x2 by omega]
  · simp [h, show ¬ y1 < y2 by omega]
set_option maxRecDepth 100000 in
set_option maxHeartbeats 4000000 in
theorem search_any {B : Nat} {w : World} {v : Value} {L : List T3} (x y : Int) (s : ByteArray) (h : Its B w v L) (hpw : L.Pairwise ls) (hap : ∀ p ∈ L, ls p (x, y, s) ∨ ls (x, y, s) p) (h9 : L.length ≤ 1024) :
    Calls Try.prog 27 #[v, .agg #[.int .i64 x, .int .i64 y, .string s], .func (.func 26) #[] #[]] w fun e w' => e = .returned (.tuple #[.int .i64 (pos (x, y, s) L : Nat), .bool false]) ∧ Below w.heap.size w w' := by
  have B0 := Lib.hid (heap_alloc_new w (.cells #[.int .i64 x, .int .i64 y, .string s] 55))
  have W0 : Hid (Below w.heap.size w (w.alloc (.cells #[.int .i64 x, .int .i64 y, .string s] 55))) := Lib.hid (new_block _)
  have PA := Lib.hid (pos_at (x, y, s) L hpw)
  have AP := Lib.hid hap
  have hple := pos_le (x, y, s) L
  clear hap hpw
  rcases h with ⟨rfl, rfl⟩ | ⟨g, c, rfl, hc, hc2, hB, hg, hcell⟩
  · have hz : pos (x, y, s) ([] : List T3) = 0 := rfl
    rw [hz]
    go_enter Try.func27, Try.ntmps27
    go_wp2_with fail
    go_loop [9, 10] (fun i j => i = .int .i64 0 ∧ j = .int .i64 0) (fun _ _ => 0)
    case atStart => exact ⟨rfl, rfl⟩
    case round =>
      obtain ⟨rfl, rfl⟩ := hrel
      go_wp2_with fail
      go_quiet (fail)
      go_wp2
      go_ret2
      exact ⟨rfl, Buf.below_drewN W0.out _⟩
  · have HC := Lib.hid hcell
    obtain ⟨n, hn⟩ : ∃ n, n = L.length := ⟨_, rfl⟩
    obtain ⟨p, hp⟩ : ∃ p, p = pos (x, y, s) L := ⟨_, rfl⟩
    rw [← hp] at PA
    rw [← hn, ← hp] at hple
    rw [← hn] at h9 hc ⊢
    rw [← hp]
    have Hn := Lib.hid hn
    clear hcell hc2 hn
    replace hp := Lib.hid hp
    -- the comparison of the element at a place
    have CMP : Hid (∀ (h : Nat) (at2 od2 : Int) (s2 : ByteArray), L[h]? = some (at2, od2, s2) → ∃ r : Int, (r = -1 ∧ h < p ∨ r = 1 ∧ p ≤ h) ∧ ∀ w', Calls Try.prog 26 #[.agg #[.int .i64 at2, .int .i64 od2, .string s2], .agg #[.int .i64 x, .int .i64 y, .string s]] w' fun e w'' => e = .returned (.int .i64 r) ∧ Below w'.heap.size w' w'') := Lib.hid fun h at2 od2 s2 hh => by
      by_cases hlt : h < p
      · have := (PA.out h _ hh).2 hlt
        exact ⟨-1, .inl ⟨rfl, hlt⟩, fun w' => compare_any at2 od2 x y (-1) s2 s (cmp_lt this) w'⟩
      · have h1 := (AP.out _ (List.mem_of_getElem? hh)).resolve_left (fun h2 => hlt ((PA.out h _ hh).1 h2))
        refine ⟨1, .inr ⟨rfl, by omega⟩, fun w' => compare_any at2 od2 x y 1 s2 s (cmp_gt ?_) w'⟩
        unfold ls at h1; simp only at h1; omega
    clear AP PA
    go_enter Try.func27, Try.ntmps27
    go_wp2_with fail
    go_loopw [9, 10] (fun i j wr => ∃ k m : Nat, k ≤ p ∧ p ≤ m ∧ m ≤ n ∧ i = .int .i64 k ∧ j = .int .i64 m ∧ Hid (Below w.heap.size w wr) ∧ Hid (wr.heap[w.heap.size]? = some (.cells #[.int .i64 x, .int .i64 y, .string s] 55 (0, 0)))) (fun i j _ => (intOf j).toNat - (intOf i).toNat)
    case atStart => exact ⟨0, n, Nat.zero_le _, hple, Nat.le_refl _, rfl, rfl, W0, B0⟩
    case round =>
      clear B0 W0
      obtain ⟨k, m, hk, hm, hmn, rfl, rfl, HB, B0⟩ := hrel
      by_cases hlt : k < m
      · obtain ⟨h, hh⟩ : ∃ h : Nat, ((k : Int) + m) / 2 = h := ⟨((k : Int) + m).toNat / 2, by omega⟩
        have h1 : k ≤ h := by omega
        have h2 : h < m := by omega
        obtain ⟨⟨at2, od2, s2⟩, hp2⟩ : ∃ p, L[h]? = some p := ⟨L[h]'(by rw [← Hn.out]; omega), List.getElem?_eq_getElem _⟩
        obtain ⟨q0, q1, q2⟩ := HC.out h _ hp2
        obtain ⟨r, hr, C2⟩ := CMP.out h at2 od2 s2 hp2
        replace C2 := Lib.hid C2
        have E4 := Lib.hid fun w' (h' : Below wr.heap.size wr w') => c3 (hb h' B0.out)
        have E5 : Hid (∀ w', Below wr.heap.size wr w' → w'.cell? ⟨g, h * 3, none⟩ = some (.int .i64 at2) ∧ w'.cell? ⟨g, h * 3 + 1, none⟩ = some (.int .i64 od2) ∧ w'.cell? ⟨g, h * 3 + 2, none⟩ = some (.string s2)) := Lib.hid fun w' hb' => by
          have hb2 := Buf.then_ HB.out hb'
          exact ⟨(hb2.cell (p := ⟨g, _, none⟩) hg).trans q0, (hb2.cell (p := ⟨g, _, none⟩) hg).trans q1, (hb2.cell (p := ⟨g, _, none⟩) hg).trans q2⟩
        clear q0 q1 q2 hp2
        have hnn : (h : Int) < n := by omega
        go_wp2_with fail
        refine Buf.region_calm wr (by kernel_rfl) (by kernel_rfl) (Below.refl _ _) ?_
        repeat (go_big_quiet_step ((intro hC; first
            | (go_at_call 26; exact Buf.calm hC (C2.out _))
            | rfl
            | (simp only [(E4.out _ hC).1, (E4.out _ hC).2.1, (E4.out _ hC).2.2, Result.andThen_ok]; exact ⟨trivial, rfl⟩)
            | (simp only [(E5.out _ hC).1, (E5.out _ hC).2.1, (E5.out _ hC).2.2, Result.andThen_ok]; exact ⟨trivial, rfl⟩))))
        refine wpQuiet_nil ?_
        intro w3 hb3
        have B3 := Lib.hid (hb hb3 B0.out)
        have W3 := Lib.hid (Buf.then_ HB.out hb3)
        clear hb3 E4 E5
        rcases hr with ⟨rfl, hr⟩ | ⟨rfl, hr⟩
        · go_wp2
          go_roundw
          case rel => exact ⟨h + 1, m, by omega, hm, hmn, by go_num, rfl, W3, B3⟩
          case measure => simp [intOf]; omega
        · go_wp2
          go_roundw
          case rel => exact ⟨k, h, hk, by omega, by omega, rfl, by go_num, W3, B3⟩
          case measure => simp [intOf]; omega
      · obtain rfl : k = m := by omega
        obtain rfl : k = p := by omega
        by_cases hkn : k < n
        · obtain ⟨⟨at2, od2, s2⟩, hp2⟩ : ∃ p, L[k]? = some p := ⟨L[k]'(by rw [← Hn.out]; omega), List.getElem?_eq_getElem _⟩
          obtain ⟨q0, q1, q2⟩ := HC.out k _ hp2
          obtain ⟨r, hr, C2⟩ := CMP.out k at2 od2 s2 hp2
          obtain rfl : r = 1 := by omega
          replace C2 := Lib.hid C2
          have E4 := Lib.hid fun w' (h' : Below wr.heap.size wr w') => c3 (hb h' B0.out)
          have E5 : Hid (∀ w', Below wr.heap.size wr w' → w'.cell? ⟨g, k * 3, none⟩ = some (.int .i64 at2) ∧ w'.cell? ⟨g, k * 3 + 1, none⟩ = some (.int .i64 od2) ∧ w'.cell? ⟨g, k * 3 + 2, none⟩ = some (.string s2)) := Lib.hid fun w' hb' => by
            have hb2 := Buf.then_ HB.out hb'
            exact ⟨(hb2.cell (p := ⟨g, _, none⟩) hg).trans q0, (hb2.cell (p := ⟨g, _, none⟩) hg).trans q1, (hb2.cell (p := ⟨g, _, none⟩) hg).trans q2⟩
          clear q0 q1 q2 hp2 hr
          have hnn : (k : Int) < n := by omega
          have hd : decide ((k : Int) < (n : Int)) = true := by simp; omega
          go_wp2_with fail
          refine Buf.region_calm wr (by kernel_rfl) (by kernel_rfl) (Below.refl _ _) ?_
          repeat (go_big_quiet_step ((intro hC; first
            | (go_at_call 26; exact Buf.calm hC (C2.out _))
            | rfl
            | (simp only [(E4.out _ hC).1, (E4.out _ hC).2.1, (E4.out _ hC).2.2, Result.andThen_ok]; exact ⟨trivial, rfl⟩)
            | (simp only [(E5.out _ hC).1, (E5.out _ hC).2.1, (E5.out _ hC).2.2, Result.andThen_ok]; exact ⟨trivial, rfl⟩))))
          refine wpQuiet_nil ?_
          intro w3 hb3
          have W3 := Lib.hid (Buf.then_ HB.out hb3)
          clear hb3 E4 E5
          go_wp2
          go_ret2
          exact ⟨rfl, W3.out⟩
        · obtain rfl : k = n := by omega
          have hd : decide ((k : Int) < (k : Int)) = false := by simp
          go_wp2_with fail
          go_quiet (fail)
          go_wp2
          go_ret2
          exact ⟨rfl, Buf.below_drewN HB.out _⟩
end Lnk
end Go.Proofs.Ytjgbidnijfecoaa
