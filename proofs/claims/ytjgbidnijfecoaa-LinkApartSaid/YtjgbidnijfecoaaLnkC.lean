/- Messages under way in memory; link.New, ValidFault, arrivals, Valid. -/
import Derived.Test.YtjgbidnijfecoaaLnkB
import Derived.Laws.AppendOwn
import Derived.Laws.OwnMore
import Derived.Deep.AppendLies
set_option linter.unusedVariables false
set_option linter.unusedSimpArgs false
namespace Go.Proofs.Ytjgbidnijfecoaa
open Go.RowKit Wi Dice
namespace Lnk
/-- The cells of messages. -/
def cellsT (L : List (Int × Int × ByteArray)) : List Value := L.flatMap fun p => [.int .i64 p.1, .int .i64 p.2.1, .string p.2.2]
theorem cellsT_append (l m : List (Int × Int × ByteArray)) : cellsT (l ++ m) = cellsT l ++ cellsT m := by simp [cellsT, List.flatMap_append]
theorem cellsT_one (x y : Int) (s : ByteArray) : cellsT [(x, y, s)] = [.int .i64 x, .int .i64 y, .string s] := by simp [cellsT]
theorem cellsT_length (l : List (Int × Int × ByteArray)) : (cellsT l).length = l.length * 3 := by
  induction l with
  | nil => rfl
  | cons p l ih => simp only [cellsT, List.flatMap_cons, List.length_append, List.length_cons, List.length_nil] at ih ⊢; omega
theorem cellsT_get (l : List (Int × Int × ByteArray)) (k : Nat) (p : Int × Int × ByteArray) (h : l[k]? = some p) :
    (cellsT l)[k * 3]? = some (.int .i64 p.1) ∧ (cellsT l)[k * 3 + 1]? = some (.int .i64 p.2.1) ∧ (cellsT l)[k * 3 + 2]? = some (.string p.2.2) := by
  induction l generalizing k with
  | nil => simp at h
  | cons q l ih =>
    have e : cellsT (q :: l) = .int .i64 q.1 :: .int .i64 q.2.1 :: .string q.2.2 :: cellsT l := by simp [cellsT]
    rw [e]
    cases k with
    | zero => simp at h; subst h; simp
    | succ k =>
      have := ih k (by simpa using h)
      have e1 : (k + 1) * 3 = k * 3 + 1 + 1 + 1 := by omega
      rw [e1]
      simpa using this
theorem cellsT_one_cell (l : List (Int × Int × ByteArray)) : ∀ u ∈ cellsT l, u.oneCell' = true := by
  intro u hu
  simp only [cellsT, List.mem_flatMap, List.mem_cons, List.not_mem_nil, or_false] at hu
  obtain ⟨p, _, rfl | rfl | rfl⟩ := hu <;> rfl
def OwnT (w : World) (B : Nat) (v : Value) (L : List (Int × Int × ByteArray)) : Prop := w.ownsRow B 55 3 v L.length (cellsT L)
/-- A list of messages that can be read, in a block from B on. -/
def Its (B : Nat) (w : World) (v : Value) (L : List (Int × Int × ByteArray)) : Prop :=
  (v = .slice none 0 0 ∧ L = []) ∨ ∃ g c, v = .slice (some ⟨g, 0, none⟩) L.length c ∧ L.length ≤ c ∧ c ≤ maxLen ∧ B ≤ g ∧ g < w.heap.size ∧
    ∀ (k : Nat) (p : Int × Int × ByteArray), L[k]? = some p → w.cell? ⟨g, k * 3, none⟩ = some (.int .i64 p.1) ∧ w.cell? ⟨g, k * 3 + 1, none⟩ = some (.int .i64 p.2.1) ∧ w.cell? ⟨g, k * 3 + 2, none⟩ = some (.string p.2.2)
theorem Its.below {B : Nat} {w w' : World} {v : Value} {L : List (Int × Int × ByteArray)} (h : Its B w v L) (hb : Below w.heap.size w w') : Its B w' v L := by
  refine h.imp id ?_
  rintro ⟨g, c, h1, h2, h3, h4, h5, h6⟩
  exact ⟨g, c, h1, h2, h3, h4, Nat.lt_of_lt_of_le h5 hb.size, fun k p hp => by
    obtain ⟨a, b, c⟩ := h6 k p hp
    exact ⟨(hb.cell (p := ⟨g, _, none⟩) h5).trans a, (hb.cell (p := ⟨g, _, none⟩) h5).trans b, (hb.cell (p := ⟨g, _, none⟩) h5).trans c⟩⟩
theorem Its.mono {B B' : Nat} {w : World} {v : Value} {L : List (Int × Int × ByteArray)} (h : Its B w v L) (hB : B' ≤ B) : Its B' w v L := by
  refine h.imp id ?_
  rintro ⟨g, c, h1, h2, h3, h4, h5⟩
  exact ⟨g, c, h1, h2, h3, by omega, h5⟩
theorem its_of_own {B : Nat} {w : World} {v : Value} {L : List (Int × Int × ByteArray)} (h : OwnT w B v L) : Its B w v L := by
  rcases h.2 with ⟨h1, h2⟩ | ⟨g, cap, cur, rfl, h2, h3, h4, h5, h6, h7⟩
  · exact .inl ⟨h1, List.eq_nil_of_length_eq_zero h2⟩
  · refine .inr ⟨g, cap, rfl, h4, h5, h2, (Array.getElem?_eq_some_iff.1 h3).1, fun k p hp => ?_⟩
    have hk : k < L.length := (List.getElem?_eq_some_iff.1 hp).1
    obtain ⟨a, b, c⟩ := cellsT_get L k p hp
    have ho : w.ownsRow B 55 3 (.slice (some ⟨g, 0, none⟩) L.length cap) L.length (cellsT L) := h
    exact ⟨(ho.cellAt _ (by omega)).trans a, (ho.cellAt _ (by omega)).trans b, (ho.cellAt _ (by omega)).trans c⟩
/-- A valid wire. -/
structure Good (now ord : Int) (L : List (Int × Int × ByteArray)) : Prop where
  n0 : 0 ≤ now
  n1 : now ≤ 1099511627776
  o0 : 0 ≤ ord
  o1 : ord ≤ 1099511627776
  len : L.length ≤ 1024
  it : ∀ (k : Nat) (p : Int × Int × ByteArray), L[k]? = some p → p.2.2.size ≤ 4096 ∧ now + 1 ≤ p.1 ∧ p.1 ≤ 2199023255552 ∧ 0 ≤ p.2.1 ∧ p.2.1 ≤ ord - 1
  asc : ∀ (k : Nat) (p q : Int × Int × ByteArray), L[k]? = some p → L[k + 1]? = some q → p.1 < q.1 ∨ (p.1 = q.1 ∧ p.2.1 < q.2.1)
theorem cmp_lt {x1 y1 x2 y2 : Int} (h : x1 < x2 ∨ (x1 = x2 ∧ y1 < y2)) : (-1 : Int) = if cmpI x1 x2 = 0 then cmpI y1 y2 else cmpI x1 x2 := by
  unfold cmpI
  rcases h with h | ⟨rfl, h⟩
  · simp [h]
  · simp [h]
theorem new_any (w : World) : Calls Try.prog 9 #[] w fun e w' => e = .returned (.agg #[.int .i64 0, .int .i64 0, .slice none 0 0]) ∧ Below w.heap.size w w' := by
  have B0 := Lib.hid (heap_alloc_new w (.cells #[.int .i64 0, .int .i64 0, .slice none 0 0] 29))
  go_enter Try.func9, Try.ntmps9
  go_wp2_with fail
  exact bodyPost_ret (results_cell_row rfl _ _ w.heap.size _ _ _ _ rfl B0.out rfl (by rfl) rfl) rfl ⟨rfl, new_block _⟩
theorem validFault_any (b : Bool) (dl cp : Int) (d0 : 0 ≤ dl) (d1 : dl ≤ 1048576) (c0 : 0 ≤ cp) (c1 : cp ≤ 8) (w : World) :
    Calls Try.prog 20 #[.agg #[.bool b, .int .i64 dl, .int .i64 cp]] w fun e w' => e = .returned (.bool true) ∧ Below w.heap.size w w' := by
  go_enter Try.func20, Try.ntmps20
  go_wp2_with (go_at_call 25; refine (within_yes _ _ _ _ (by omega) (by omega)).mono ?_; rintro e w' ⟨rfl, m, rfl⟩)
  go_ret
  exact ⟨rfl, Buf.below_drewN (new_block _) _⟩
theorem arrivals_any (b : Bool) (dl cp : Int) (c0 : 0 ≤ cp) (c1 : cp ≤ 8) (n : Nat) (hn : (n : Int) = if b then 0 else 1 + cp) (w : World) :
    Calls Try.prog 21 #[.agg #[.bool b, .int .i64 dl, .int .i64 cp]] w fun e w' => e = .returned (.int .i64 (n : Int)) ∧ Below w.heap.size w w' := by
  cases b
  · have e : Hid ((n : Int) = 1 + cp) := hn
    clear hn
    rw [e.out]
    go_enter Try.func21, Try.ntmps21
    go_wp2_with fail
    go_ret
    exact ⟨rfl, new_block _⟩
  · have e : Hid ((n : Int) = 0) := hn
    clear hn
    rw [e.out]
    go_enter Try.func21, Try.ntmps21
    go_wp2_with fail
    go_ret
    exact ⟨rfl, new_block _⟩
set_option maxRecDepth 100000 in
set_option maxHeartbeats 4000000 in
theorem valid_yes {B : Nat} {w : World} {v : Value} {L : List (Int × Int × ByteArray)} (now ord : Int) (G : Good now ord L) (h : Its B w v L) :
    Calls Try.prog 19 #[.agg #[.int .i64 now, .int .i64 ord, v]] w fun e w' => e = .returned (.bool true) ∧ Below w.heap.size w w' := by
  have HG := Lib.hid G
  obtain ⟨n0, n1, o0, o1, hlen, _, _⟩ := G
  rcases h with ⟨rfl, rfl⟩ | ⟨g, c, rfl, hc, hc2, hB, hg, hcell⟩
  · go_enter Try.func19, Try.ntmps19
    go_wp2_with (go_at_call 25; refine (within_yes _ _ _ _ (by omega) (by omega)).mono ?_; rintro e w' ⟨rfl, m, rfl⟩)
    go_loop [24] (fun i => i = .int .i64 0) (fun _ => 0)
    case atStart => rfl
    case round =>
      subst hrel
      go_wp2
      go_ret
      exact ⟨rfl, Buf.below_drewN (new_block _) _⟩
  · have HC := Lib.hid hcell
    have B0 := Lib.hid (heap_alloc_new w (.cells #[.int .i64 now, .int .i64 ord, .slice (some ⟨g, 0, none⟩) L.length c] 29))
    have W0 : Hid (Below w.heap.size w (w.alloc (.cells #[.int .i64 now, .int .i64 ord, .slice (some ⟨g, 0, none⟩) L.length c] 29))) := Lib.hid (new_block _)
    obtain ⟨n, hn⟩ : ∃ n, n = L.length := ⟨_, rfl⟩
    rw [← hn] at hlen hc B0 W0 ⊢
    have Hn := Lib.hid hn
    clear hcell hc2 hn
    go_enter Try.func19, Try.ntmps19
    go_wp2_with (go_at_call 25; refine (within_yes _ _ _ _ (by omega) (by omega)).mono ?_; rintro e w' ⟨rfl, m, rfl⟩)
    go_loopw [24] (fun i wr => ∃ k : Nat, k ≤ n ∧ i = .int .i64 k ∧ Hid (Below w.heap.size w wr) ∧ Hid (wr.heap[w.heap.size]? = some (.cells #[.int .i64 now, .int .i64 ord, .slice (some ⟨g, 0, none⟩) n c] 29 (0, 0)))) (fun i _ => n - (intOf i).toNat)
    case atStart => exact ⟨0, Nat.zero_le _, rfl, Lib.hid (Buf.below_drewN W0.out _), B0⟩
    case round =>
      clear B0 W0
      obtain ⟨k, hk, rfl, HB, B0⟩ := hrel
      by_cases hlt : k < n
      · obtain ⟨⟨at_, od, s⟩, hp⟩ : ∃ p, L[k]? = some p := ⟨L[k]'(by rw [← Hn.out]; exact hlt), List.getElem?_eq_getElem _⟩
        obtain ⟨q0, q1, q2⟩ := HC.out k _ hp
        have c0 := (HB.out.cell (p := ⟨g, _, none⟩) hg).trans q0
        have c1 := (HB.out.cell (p := ⟨g, _, none⟩) hg).trans q1
        have c2 := (HB.out.cell (p := ⟨g, _, none⟩) hg).trans q2
        obtain ⟨i0, i1, i2, i3, i4⟩ := HG.out.it k _ hp
        dsimp only at i0 i1 i2 i3 i4 c0 c1 c2
        have HP := Lib.hid hp
        have IB := Lib.hid (heap_alloc_new wr (.cells #[.int .i64 at_, .int .i64 od, .string s] 55))
        have IW : Hid (Below wr.heap.size wr (wr.alloc (.cells #[.int .i64 at_, .int .i64 od, .string s] 55))) := Lib.hid (new_block _)
        obtain ⟨k0, k1, k2⟩ := c3 (hb IW.out B0.out)
        clear q0 q1 q2 hp
        rcases Nat.eq_zero_or_pos k with rfl | hpos
        · go_wp2_with (go_at_call 25; refine (within_yes _ _ _ _ (by omega) (by omega)).mono ?_; rintro e w' ⟨rfl, m, rfl⟩)
          go_quiet (fail)
          go_wp2
          go_roundw
          case rel => exact ⟨1, by omega, rfl, Lib.hid (Buf.below_drewN (Buf.then_ HB.out IW.out) _), Lib.hid (hb (Buf.below_drewN IW.out _) B0.out)⟩
          case measure => simp [intOf]; omega
        · obtain ⟨j, rfl⟩ : ∃ j, k = j + 1 := ⟨k - 1, by omega⟩
          obtain ⟨⟨at2, od2, s2⟩, hp2⟩ : ∃ p, L[j]? = some p := ⟨L[j]'(by rw [← Hn.out]; omega), List.getElem?_eq_getElem _⟩
          obtain ⟨q0, q1, q2⟩ := HC.out j _ hp2
          have hcmp := Lib.hid (cmp_lt (HG.out.asc j _ _ hp2 HP.out))
          have HD : Hid (∀ w', Below wr.heap.size wr w' → w'.cell? ⟨g, j * 3, none⟩ = some (.int .i64 at2) ∧ w'.cell? ⟨g, j * 3 + 1, none⟩ = some (.int .i64 od2) ∧ w'.cell? ⟨g, j * 3 + 2, none⟩ = some (.string s2)) := Lib.hid fun w' hb' => by
            have hb2 := Buf.then_ HB.out hb'
            exact ⟨(hb2.cell (p := ⟨g, _, none⟩) hg).trans q0, (hb2.cell (p := ⟨g, _, none⟩) hg).trans q1, (hb2.cell (p := ⟨g, _, none⟩) hg).trans q2⟩
          clear q0 q1 q2 hp2 hpos
          have e3 : Hid (∀ w', Below wr.heap.size wr w' → w'.heap[w.heap.size]? = some (.cells #[.int .i64 now, .int .i64 ord, .slice (some ⟨g, 0, none⟩) n c] 29 (0, 0))) := Lib.hid fun w' h' => hb h' B0.out
          have C2 := Lib.hid fun w' => compare_any at2 od2 at_ od (-1) s2 s hcmp.out w'
          go_wp2_with fail
          refine (within_yes _ _ _ _ (by omega) (by omega)).mono ?_
          rintro e w1 ⟨rfl, m1, rfl⟩
          replace IB := Lib.hid (show ((wr.alloc (.cells #[.int .i64 at_, .int .i64 od, .string s] 55)).drewN m1).heap[wr.heap.size]? = _ from IB.out)
          replace IW := Lib.hid (Buf.below_drewN IW.out m1)
          clear k0 k1 k2
          generalize (wr.alloc (.cells #[.int .i64 at_, .int .i64 od, .string s] 55)).drewN m1 = w1 at *
          obtain ⟨k0, k1, k2⟩ := c3 (e3.out _ IW.out)
          obtain ⟨t0, t1, t2⟩ := c3 IB.out
          go_wp2_with fail
          refine (within_yes _ _ _ _ (by omega) (by omega)).mono ?_
          rintro e w2 ⟨rfl, m2, rfl⟩
          replace IB := Lib.hid (show (w1.drewN m2).heap[wr.heap.size]? = _ from IB.out)
          replace IW := Lib.hid (Buf.below_drewN IW.out m2)
          clear k0 k1 k2 t0 t1 t2
          generalize w1.drewN m2 = w2 at *
          go_wp2_with fail
          have E3 := Lib.hid fun w' (h' : Below w2.heap.size w2 w') => c3 (e3.out w' (Buf.then_ IW.out h'))
          have E4 := Lib.hid fun w' (h' : Below w2.heap.size w2 w') => c3 (hb h' IB.out)
          have E5 := Lib.hid fun w' (h' : Below w2.heap.size w2 w') => HD.out w' (Buf.then_ IW.out h')
          refine Buf.region_calm w2 (by kernel_rfl) (by kernel_rfl) (Below.refl _ _) ?_
          repeat (go_big_quiet_step ((intro hC; first
            | (go_at_call 26; exact Buf.calm hC (C2.out _))
            | rfl
            | (simp only [(E3.out _ hC).2.2, Result.andThen_ok]; exact ⟨trivial, rfl⟩)
            | (simp only [(E4.out _ hC).1, (E4.out _ hC).2.1, (E4.out _ hC).2.2, Result.andThen_ok]; exact ⟨trivial, rfl⟩)
            | (simp only [(E5.out _ hC).1, (E5.out _ hC).2.1, (E5.out _ hC).2.2, Result.andThen_ok]; exact ⟨trivial, rfl⟩))))
          refine wpQuiet_nil ?_
          intro w3 hb3
          have B3 := Lib.hid (e3.out w3 (Buf.then_ IW.out hb3))
          have W3 := Lib.hid (Buf.then_ HB.out (Buf.then_ IW.out hb3))
          clear hb3 E3 E4 E5 IB IW e3 HD
          go_wp2
          go_roundw
          case rel => exact ⟨j + 2, by omega, by go_num, W3, B3⟩
          case measure => simp [intOf]; omega
      · obtain rfl : k = n := by omega
        obtain ⟨k0, k1, k2⟩ := c3 B0.out
        go_wp2
        go_ret
        exact ⟨rfl, HB.out⟩
end Lnk
end Go.Proofs.Ytjgbidnijfecoaa
