/- Senders of any numbers and strings: Next, New, Get of both packages. -/
import Derived.Test.YtganalieljmkmaaSxA
import Derived.Deep.DeepCutAuto
set_option linter.unusedVariables false
set_option linter.unusedSimpArgs false
namespace Go.Proofs.Ytganalieljmkmaa
open Go.RowKit Dice Wi
namespace Sx
open Snd (cells3 free3)
theorem valid_all {w : World} {v : Value} {S : LS} (size first : Int) (h : Stw w v S) (h9 : S.length ≤ 1000) :
    Calls Try.prog 15 #[.agg #[.int .i64 size, .int .i64 first, v]] w fun e w' => e = .returned (.bool (okB size first S)) ∧ Below w.heap.size w w' := by
  by_cases c : OkS size first S
  · rw [okB_yes c]; exact valid_gen size first h h9 true (by simp [c])
  · rw [okB_no c]; exact valid_gen size first h h9 false (by simp [c])
theorem next_s {w : World} {a : Option Addr} {n c : Nat} (size first : Int) (f0 : 0 ≤ first) (f1 : first + n ≤ 1073741825) :
    Calls Try.prog 17 #[.agg #[.int .i64 size, .int .i64 first, .slice a n c]] w fun e w' => e = .returned (.int .i64 (first + n)) ∧ Below w.heap.size w w' := by
  go_enter Try.func17, Try.ntmps17
  go_wp2
  go_ret
  exact ⟨rfl, new_block _⟩
theorem new_all {w : World} (size : Int) :
    Calls Try.prog 24 #[.int .i64 size] w fun e w' => (((1 ≤ size ∧ size ≤ 256) ∧ e = .returned (.tuple #[.agg #[.int .i64 size, .int .i64 0, .slice none 0 0], .int .i64 0])) ∨ (¬ (1 ≤ size ∧ size ≤ 256) ∧ e = .returned (.tuple #[.agg #[.int .i64 0, .int .i64 0, .slice none 0 0], .int .i64 2]))) ∧ Below w.heap.size w w' := by
  have KZ : ∀ (wx : World) (m : Nat), Below w.heap.size w ((((( w.alloc (.cells #[.int .i64 0, .int .i64 0, .slice none 0 0] 25)).drewN m).setCell ⟨w.heap.size, 0, none⟩ (.int .i64 0)).setCell ⟨w.heap.size, 1, none⟩ (.int .i64 0)).setCell ⟨w.heap.size, 2, none⟩ (.slice none 0 0)) := fun _ m =>
    (((Buf.below_drewN (new_block _) _).setCell (Nat.le_refl _) _).setCell (Nat.le_refl _) _).setCell (Nat.le_refl _) _
  by_cases c : 1 ≤ size ∧ size ≤ 256
  · go_enter Try.func24, Try.ntmps24
    go_wp2_with (go_at_call 27; refine (within_yes _ _ _ _ (by omega) (by omega)).mono ?_; rintro e w' ⟨rfl, m, rfl⟩)
    refine bodyPost_ret (v := .tuple #[.agg #[.int .i64 size, .int .i64 0, .slice none 0 0], .int .i64 0]) (by simp [results, Try.results24, go_sem]) rfl ⟨.inl ⟨c, rfl⟩, ?_⟩
    exact (((Buf.below_drewN (new_block _) _).setCell (Nat.le_refl _) _).setCell (Nat.le_refl _) _).setCell (Nat.le_refl _) _
  · go_enter Try.func24, Try.ntmps24
    go_wp2_with (go_at_call 27; refine (within_no _ _ _ _ (by omega)).mono ?_; rintro e w' ⟨rfl, m, rfl⟩)
    refine bodyPost_ret (v := .tuple #[.agg #[.int .i64 0, .int .i64 0, .slice none 0 0], .int .i64 2]) (by simp [results, Try.results24, go_sem]) rfl ⟨.inr ⟨c, rfl⟩, ?_⟩
    first | exact (((Buf.below_drewN (new_block _) _).setCell (Nat.le_refl _) _).setCell (Nat.le_refl _) _).setCell (Nat.le_refl _) _ | exact Buf.below_drewN (new_block _) _
theorem refvalid_all {w : World} {v : Value} {S : LS} (size first : Int) (h : Stw w v S) (h9 : S.length ≤ 1000) :
    Calls Try.prog 16 #[.agg #[.int .i64 size, .int .i64 first, v]] w fun e w' => e = .returned (.bool (okB size first S)) ∧ Below w.heap.size w w' := by
  by_cases c : OkS size first S
  · rw [okB_yes c]; exact refvalid_gen size first h h9 true (by simp [c])
  · rw [okB_no c]; exact refvalid_gen size first h h9 false (by simp [c])
theorem refnext_s {w : World} {a : Option Addr} {n c : Nat} (size first : Int) (f0 : 0 ≤ first) (f1 : first + n ≤ 1073741825) :
    Calls Try.prog 18 #[.agg #[.int .i64 size, .int .i64 first, .slice a n c]] w fun e w' => e = .returned (.int .i64 (first + n)) ∧ Below w.heap.size w w' := by
  go_enter Try.func18, Try.ntmps18
  go_wp2
  go_ret
  exact ⟨rfl, new_block _⟩
theorem refnew_all {w : World} (size : Int) :
    Calls Try.prog 25 #[.int .i64 size] w fun e w' => (((1 ≤ size ∧ size ≤ 256) ∧ e = .returned (.tuple #[.agg #[.int .i64 size, .int .i64 0, .slice none 0 0], .int .i64 0])) ∨ (¬ (1 ≤ size ∧ size ≤ 256) ∧ e = .returned (.tuple #[.agg #[.int .i64 0, .int .i64 0, .slice none 0 0], .int .i64 2]))) ∧ Below w.heap.size w w' := by
  have KZ : ∀ (wx : World) (m : Nat), Below w.heap.size w ((((( w.alloc (.cells #[.int .i64 0, .int .i64 0, .slice none 0 0] 25)).drewN m).setCell ⟨w.heap.size, 0, none⟩ (.int .i64 0)).setCell ⟨w.heap.size, 1, none⟩ (.int .i64 0)).setCell ⟨w.heap.size, 2, none⟩ (.slice none 0 0)) := fun _ m =>
    (((Buf.below_drewN (new_block _) _).setCell (Nat.le_refl _) _).setCell (Nat.le_refl _) _).setCell (Nat.le_refl _) _
  by_cases c : 1 ≤ size ∧ size ≤ 256
  · go_enter Try.func25, Try.ntmps25
    go_wp2_with (go_at_call 28; refine (in_ok _ _ _ _ (by omega) (by omega)).mono ?_; rintro e w' ⟨rfl, m, rfl⟩)
    refine bodyPost_ret (v := .tuple #[.agg #[.int .i64 size, .int .i64 0, .slice none 0 0], .int .i64 0]) (by simp [results, Try.results25, go_sem]) rfl ⟨.inl ⟨c, rfl⟩, ?_⟩
    exact (((Buf.below_drewN (new_block _) _).setCell (Nat.le_refl _) _).setCell (Nat.le_refl _) _).setCell (Nat.le_refl _) _
  · go_enter Try.func25, Try.ntmps25
    go_wp2_with (go_at_call 28; refine (in_no _ _ _ _ (by omega)).mono ?_; rintro e w' ⟨rfl, m, rfl⟩)
    refine bodyPost_ret (v := .tuple #[.agg #[.int .i64 0, .int .i64 0, .slice none 0 0], .int .i64 2]) (by simp [results, Try.results25, go_sem]) rfl ⟨.inr ⟨c, rfl⟩, ?_⟩
    first | exact (((Buf.below_drewN (new_block _) _).setCell (Nat.le_refl _) _).setCell (Nat.le_refl _) _).setCell (Nat.le_refl _) _ | exact Buf.below_drewN (new_block _) _
/-- What Get answers. -/
def GetR (size first : Int) (S : LS) (k : Int) (s : ByteArray) (b : Bool) : Prop :=
  ((OkS size first S ∧ first ≤ k ∧ k < first + S.length) → b = true ∧ S[(k - first).toNat]? = some s) ∧ (¬ (OkS size first S ∧ first ≤ k ∧ k < first + S.length) → b = false ∧ s = ⟨#[]⟩)
theorem GetR.unique {size first k : Int} {S : LS} {s s' : ByteArray} {b b' : Bool} (h : GetR size first S k s b) (h' : GetR size first S k s' b') : s = s' ∧ b = b' := by
  by_cases c : OkS size first S ∧ first ≤ k ∧ k < first + S.length
  · obtain ⟨a1, a2⟩ := h.1 c
    obtain ⟨b1, b2⟩ := h'.1 c
    rw [a2] at b2
    exact ⟨by injection b2, a1.trans b1.symm⟩
  · obtain ⟨a1, a2⟩ := h.2 c
    obtain ⟨b1, b2⟩ := h'.2 c
    exact ⟨a2.trans b2.symm, a1.trans b1.symm⟩
set_option maxHeartbeats 8000000 in
set_option maxRecDepth 100000 in
theorem get_all {w : World} {v : Value} {S : LS} (size first k : Int) (h : Stw w v S) (h9 : S.length ≤ 1000) :
    Calls Try.prog 19 #[.agg #[.int .i64 size, .int .i64 first, v], .int .i64 k] w fun e w' => (∃ s b, e = .returned (.tuple #[.string s, .bool b]) ∧ GetR size first S k s b) ∧ Below w.heap.size w w' := by
  have HV := Lib.hid fun wx (hb : Below w.heap.size w wx) => valid_all size first (h.keep hb) h9
  obtain ⟨ad, c, rfl, hc, hm, hf⟩ := h
  obtain ⟨n, hn⟩ : ∃ n, n = S.length := ⟨_, rfl⟩
  rw [← hn] at hc h9 HV ⊢
  replace hn := Lib.hid hn
  have F := Lib.hid hf
  clear hf hm
  go_enter Try.func19, Try.ntmps19
  obtain ⟨wb, hwb⟩ : ∃ wb, wb = w.alloc (.cells #[.int .i64 size, .int .i64 first, .slice ad n c] 25) := ⟨_, rfl⟩
  obtain ⟨bb, hbb⟩ : ∃ bb, bb = w.heap.size := ⟨_, rfl⟩
  have B0 := Lib.hid (show Below w.heap.size w wb by rw [hwb]; exact new_block _)
  have PX := Lib.hid (show wb.heap[bb]? = some (.cells #[.int .i64 size, .int .i64 first, .slice ad n c] 25 (0, 0)) by rw [hwb, hbb]; exact heap_alloc_new w _)
  go_upto_region 1 with fail
  rw [← hwb, ← hbb]
  clear hwb hbb
  obtain ⟨k0, k1, k2⟩ := cells3 PX.out
  have V := Lib.hid fun wx (hb : Below wb.heap.size wb wx) => HV.out wx (Buf.then_ B0.out hb)
  clear HV
  by_cases ok : OkS size first S
  · rw [okB_yes ok] at V
    obtain ⟨o1, o2, o3, o4, o5, _⟩ := id ok
    rw [← hn.out] at o4 o5
    have OK := Lib.hid ok
    have NX := Lib.hid fun (wx : World) => next_s (w := wx) (a := ad) (n := n) (c := c) size first o3 o5
    have wn : IntKind.i64.wrap (first + (n : Int) - 1) = first + (n : Int) - 1 := IntWalk.i64_in _ (by omega)
    clear ok
    by_cases c1 : first ≤ k ∧ k ≤ first + n - 1
    · obtain ⟨s, hs⟩ : ∃ s, S[(k - first).toNat]? = some s := ⟨S[(k - first).toNat]'(by rw [← hn.out]; omega), List.getElem?_eq_getElem _⟩
      obtain ⟨i, hi⟩ : ∃ i : Nat, k = first + i := ⟨(k - first).toNat, by omega⟩
      have hin : i < n := by omega
      have hs' : S[i]? = some s := by rw [← hs]; congr 1; omega
      obtain ⟨g, o, rfl, hg, q0⟩ := F.out i s hs'
      have R := Lib.hid (show GetR size first S k s true from ⟨fun _ => ⟨rfl, hs⟩, fun n_ => absurd ⟨OK.out, c1.1, by rw [← hn.out]; omega⟩ n_⟩)
      have wk : IntKind.i64.wrap (k - first) = (i : Int) := by rw [hi, show first + (i : Int) - first = i by omega]; exact IntWalk.i64_in _ (by omega)
      have b1 : (i : Int) < n := by omega
      have b0 : (0 : Int) ≤ i := by omega
      have Q := Lib.hid fun wx (hb : Below wb.heap.size wb wx) => ((Buf.then_ B0.out hb).cell (p := ⟨g, o + i, none⟩) hg).trans q0
      clear hs hs' q0
      refine Buf.region_calm wb (by kernel_rfl) (by kernel_rfl) (Below.refl _ _) ?_
      clear k0 k1 k2
      repeat (go_big_quiet_step ((intro hC; first
        | (go_at_call 15; with_reducible exact Buf.calm hC (V.out _ hC))
        | (go_at_call 17; with_reducible exact Buf.calm hC (NX.out _))
        | (go_at_call 27; exact Buf.calmN hC (within_yes _ _ _ _ (by omega) (by omega)))
        | rfl
        | (simp only [(cells3 (hop3 hC PX.out)).1, (cells3 (hop3 hC PX.out)).2.1, (cells3 (hop3 hC PX.out)).2.2, Result.andThen_ok]; exact ⟨trivial, rfl⟩))))
      refine wpQuiet_nil ?_
      intro w2 hb
      obtain ⟨k0, k1, k2⟩ := cells3 (hop3 hb PX.out)
      have q0 := Q.out _ hb
      replace hi := Lib.hid hi
      go_wp2_with fail
      go_ret2
      exact ⟨⟨s, true, rfl, R.out⟩, Buf.then_ B0.out hb⟩
    · have R := Lib.hid (show GetR size first S k ⟨#[]⟩ false from ⟨fun h => absurd ⟨h.2.1, by have := h.2.2; rw [← hn.out] at this; omega⟩ c1, fun _ => ⟨rfl, rfl⟩⟩)
      refine Buf.region_calm wb (by kernel_rfl) (by kernel_rfl) (Below.refl _ _) ?_
      clear k0 k1 k2
      repeat (go_big_quiet_step ((intro hC; first
        | (go_at_call 15; with_reducible exact Buf.calm hC (V.out _ hC))
        | (go_at_call 17; with_reducible exact Buf.calm hC (NX.out _))
        | (go_at_call 27; exact Buf.calmN hC (within_no _ _ _ _ (by omega)))
        | rfl
        | (simp only [(cells3 (hop3 hC PX.out)).1, (cells3 (hop3 hC PX.out)).2.1, (cells3 (hop3 hC PX.out)).2.2, Result.andThen_ok]; exact ⟨trivial, rfl⟩))))
      refine wpQuiet_nil ?_
      intro w2 hb
      obtain ⟨k0, k1, k2⟩ := cells3 (hop3 hb PX.out)
      go_wp2_with fail
      go_ret2
      exact ⟨⟨_, false, rfl, R.out⟩, Buf.then_ B0.out hb⟩
  · rw [okB_no ok] at V
    have R := Lib.hid (show GetR size first S k ⟨#[]⟩ false from ⟨fun h => absurd h.1 ok, fun _ => ⟨rfl, rfl⟩⟩)
    have NX := Lib.hid True.intro
    clear ok
    refine Buf.region_calm wb (by kernel_rfl) (by kernel_rfl) (Below.refl _ _) ?_
    clear k0 k1 k2
    repeat (go_big_quiet_step ((intro hC; first
      | (go_at_call 15; with_reducible exact Buf.calm hC (V.out _ hC))
      | rfl
      | (simp only [(cells3 (hop3 hC PX.out)).1, (cells3 (hop3 hC PX.out)).2.1, (cells3 (hop3 hC PX.out)).2.2, Result.andThen_ok]; exact ⟨trivial, rfl⟩))))
    refine wpQuiet_nil ?_
    intro w2 hb
    obtain ⟨k0, k1, k2⟩ := cells3 (hop3 hb PX.out)
    go_wp2_with fail
    go_ret2
    exact ⟨⟨_, false, rfl, R.out⟩, Buf.then_ B0.out hb⟩
set_option maxHeartbeats 8000000 in
set_option maxRecDepth 100000 in
theorem refget_all {w : World} {v : Value} {S : LS} (size first k : Int) (h : Stw w v S) (h9 : S.length ≤ 1000) :
    Calls Try.prog 20 #[.agg #[.int .i64 size, .int .i64 first, v], .int .i64 k] w fun e w' => (∃ s b, e = .returned (.tuple #[.string s, .bool b]) ∧ GetR size first S k s b) ∧ Below w.heap.size w w' := by
  have HV := Lib.hid fun wx (hb : Below w.heap.size w wx) => refvalid_all size first (h.keep hb) h9
  obtain ⟨ad, c, rfl, hc, hm, hf⟩ := h
  obtain ⟨n, hn⟩ : ∃ n, n = S.length := ⟨_, rfl⟩
  rw [← hn] at hc h9 HV ⊢
  replace hn := Lib.hid hn
  have F := Lib.hid hf
  clear hf hm
  go_enter Try.func20, Try.ntmps20
  obtain ⟨wb, hwb⟩ : ∃ wb, wb = w.alloc (.cells #[.int .i64 size, .int .i64 first, .slice ad n c] 25) := ⟨_, rfl⟩
  obtain ⟨bb, hbb⟩ : ∃ bb, bb = w.heap.size := ⟨_, rfl⟩
  have B0 := Lib.hid (show Below w.heap.size w wb by rw [hwb]; exact new_block _)
  have PX := Lib.hid (show wb.heap[bb]? = some (.cells #[.int .i64 size, .int .i64 first, .slice ad n c] 25 (0, 0)) by rw [hwb, hbb]; exact heap_alloc_new w _)
  go_upto_region 1 with fail
  rw [← hwb, ← hbb]
  clear hwb hbb
  obtain ⟨k0, k1, k2⟩ := cells3 PX.out
  have V := Lib.hid fun wx (hb : Below wb.heap.size wb wx) => HV.out wx (Buf.then_ B0.out hb)
  clear HV
  by_cases ok : OkS size first S
  · rw [okB_yes ok] at V
    obtain ⟨o1, o2, o3, o4, o5, _⟩ := id ok
    rw [← hn.out] at o4 o5
    have OK := Lib.hid ok
    have NX := Lib.hid fun (wx : World) => refnext_s (w := wx) (a := ad) (n := n) (c := c) size first o3 o5
    have wn : IntKind.i64.wrap (first + (n : Int) - 1) = first + (n : Int) - 1 := IntWalk.i64_in _ (by omega)
    clear ok
    by_cases c1 : first ≤ k ∧ k ≤ first + n - 1
    · obtain ⟨s, hs⟩ : ∃ s, S[(k - first).toNat]? = some s := ⟨S[(k - first).toNat]'(by rw [← hn.out]; omega), List.getElem?_eq_getElem _⟩
      obtain ⟨i, hi⟩ : ∃ i : Nat, k = first + i := ⟨(k - first).toNat, by omega⟩
      have hin : i < n := by omega
      have hs' : S[i]? = some s := by rw [← hs]; congr 1; omega
      obtain ⟨g, o, rfl, hg, q0⟩ := F.out i s hs'
      have R := Lib.hid (show GetR size first S k s true from ⟨fun _ => ⟨rfl, hs⟩, fun n_ => absurd ⟨OK.out, c1.1, by rw [← hn.out]; omega⟩ n_⟩)
      have wk : IntKind.i64.wrap (k - first) = (i : Int) := by rw [hi, show first + (i : Int) - first = i by omega]; exact IntWalk.i64_in _ (by omega)
      have b1 : (i : Int) < n := by omega
      have b0 : (0 : Int) ≤ i := by omega
      have Q := Lib.hid fun wx (hb : Below wb.heap.size wb wx) => ((Buf.then_ B0.out hb).cell (p := ⟨g, o + i, none⟩) hg).trans q0
      clear hs hs' q0
      refine Buf.region_calm wb (by kernel_rfl) (by kernel_rfl) (Below.refl _ _) ?_
      clear k0 k1 k2
      repeat (go_big_quiet_step ((intro hC; first
        | (go_at_call 16; with_reducible exact Buf.calm hC (V.out _ hC))
        | (go_at_call 18; with_reducible exact Buf.calm hC (NX.out _))
        | (go_at_call 28; exact Buf.calmN hC (in_ok _ _ _ _ (by omega) (by omega)))
        | rfl
        | (simp only [(cells3 (hop3 hC PX.out)).1, (cells3 (hop3 hC PX.out)).2.1, (cells3 (hop3 hC PX.out)).2.2, Result.andThen_ok]; exact ⟨trivial, rfl⟩))))
      refine wpQuiet_nil ?_
      intro w2 hb
      obtain ⟨k0, k1, k2⟩ := cells3 (hop3 hb PX.out)
      have q0 := Q.out _ hb
      replace hi := Lib.hid hi
      go_wp2_with fail
      go_ret2
      exact ⟨⟨s, true, rfl, R.out⟩, Buf.then_ B0.out hb⟩
    · have R := Lib.hid (show GetR size first S k ⟨#[]⟩ false from ⟨fun h => absurd ⟨h.2.1, by have := h.2.2; rw [← hn.out] at this; omega⟩ c1, fun _ => ⟨rfl, rfl⟩⟩)
      refine Buf.region_calm wb (by kernel_rfl) (by kernel_rfl) (Below.refl _ _) ?_
      clear k0 k1 k2
      repeat (go_big_quiet_step ((intro hC; first
        | (go_at_call 16; with_reducible exact Buf.calm hC (V.out _ hC))
        | (go_at_call 18; with_reducible exact Buf.calm hC (NX.out _))
        | (go_at_call 28; exact Buf.calmN hC (in_no _ _ _ _ (by omega)))
        | rfl
        | (simp only [(cells3 (hop3 hC PX.out)).1, (cells3 (hop3 hC PX.out)).2.1, (cells3 (hop3 hC PX.out)).2.2, Result.andThen_ok]; exact ⟨trivial, rfl⟩))))
      refine wpQuiet_nil ?_
      intro w2 hb
      obtain ⟨k0, k1, k2⟩ := cells3 (hop3 hb PX.out)
      go_wp2_with fail
      go_ret2
      exact ⟨⟨_, false, rfl, R.out⟩, Buf.then_ B0.out hb⟩
  · rw [okB_no ok] at V
    have R := Lib.hid (show GetR size first S k ⟨#[]⟩ false from ⟨fun h => absurd h.1 ok, fun _ => ⟨rfl, rfl⟩⟩)
    have NX := Lib.hid True.intro
    clear ok
    refine Buf.region_calm wb (by kernel_rfl) (by kernel_rfl) (Below.refl _ _) ?_
    clear k0 k1 k2
    repeat (go_big_quiet_step ((intro hC; first
      | (go_at_call 16; with_reducible exact Buf.calm hC (V.out _ hC))
      | rfl
      | (simp only [(cells3 (hop3 hC PX.out)).1, (cells3 (hop3 hC PX.out)).2.1, (cells3 (hop3 hC PX.out)).2.2, Result.andThen_ok]; exact ⟨trivial, rfl⟩))))
    refine wpQuiet_nil ?_
    intro w2 hb
    obtain ⟨k0, k1, k2⟩ := cells3 (hop3 hb PX.out)
    go_wp2_with fail
    go_ret2
    exact ⟨⟨_, false, rfl, R.out⟩, Buf.then_ B0.out hb⟩
end Sx
end Go.Proofs.Ytganalieljmkmaa
