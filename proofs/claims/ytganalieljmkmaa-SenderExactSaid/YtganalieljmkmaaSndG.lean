/- Contract of sender.Get. -/
import Derived.Test.YtganalieljmkmaaSnd
set_option linter.unusedVariables false
namespace Go.Proofs.Ytganalieljmkmaa
open Go.RowKit Wi Dice
namespace Snd
def Got (ms : List ByteArray) (first : Int) (n : Nat) (k : Int) (e : Ending) : Prop :=
  (∃ j : Nat, j < n ∧ k = first + j ∧ e = .returned (.tuple #[.string (ms.getD j ByteArray.empty), .bool true])) ∨ ((k < first ∨ first + n ≤ k) ∧ e = .returned (.tuple #[.string ⟨#[]⟩, .bool false]))
set_option maxHeartbeats 1000000 in
theorem get_any {B : Nat} {w : World} {a : Option Addr} {n cap : Nat} {ms : List ByteArray} (size first k : Int) (gd : Good size first n ms) (k0 : -1000 ≤ k) (k1 : k ≤ 2000) (h : Row B w a n cap ms) :
    Calls Try.prog 19 #[.agg #[.int .i64 size, .int .i64 first, .slice a n cap], .int .i64 k] w fun e w' => Got ms first n k e ∧ Below w.heap.size w w' := by
  have HG := Lib.hid gd
  have HR := Lib.hid (h.below (new_block (.cells #[.int .i64 size, .int .i64 first, .slice a n cap] 25)))
  have C0 := Lib.hid (heap_alloc_new w (.cells #[.int .i64 size, .int .i64 first, .slice a n cap] 25))
  have W0 : Hid (Below w.heap.size w (w.alloc (.cells #[.int .i64 size, .int .i64 first, .slice a n cap] 25))) := Lib.hid (new_block _)
  obtain ⟨s1, s2, f0, f1, le, _⟩ := gd
  clear h
  by_cases hk : first ≤ k ∧ k < first + n
  · obtain ⟨hk1, hk2⟩ := hk
    obtain ⟨j, rfl⟩ : ∃ j : Nat, k = first + j := ⟨(k - first).toNat, by omega⟩
    have hj : j < n := by omega
    go_enter Try.func19, Try.ntmps19
    go_wp2_with fail
    generalize w.alloc (.cells #[.int .i64 size, .int .i64 first, .slice a n cap] 25) = w1 at *
    obtain ⟨a0, a1, a2⟩ := cells3 C0.out
    refine Buf.region_calm w1 (by kernel_rfl) (by kernel_rfl) (Below.refl _ _) ?_
    clear a0 a1 a2
    repeat (go_big_quiet_step ((intro hC; first
      | (go_at_call 15; exact Buf.calm hC (valid_yes size first HG.out (HR.out.below hC)))
      | (go_at_call 17; exact Buf.calm hC (next_any size first f0 f1 (by omega)))
      | (go_at_call 27; exact Buf.calmN hC (within_yes _ _ _ _ (by omega) (by omega)))
      | rfl
      | (simp only [(cells3 ((hC.block w.heap.size (Array.getElem?_eq_some_iff.1 C0.out).1).trans C0.out)).1, (cells3 ((hC.block w.heap.size (Array.getElem?_eq_some_iff.1 C0.out).1).trans C0.out)).2.1, (cells3 ((hC.block w.heap.size (Array.getElem?_eq_some_iff.1 C0.out).1).trans C0.out)).2.2, Result.andThen_ok]; exact ⟨trivial, rfl⟩))))
    refine wpQuiet_nil ?_
    intro w2 hb
    obtain ⟨hn, hr⟩ := HR.out.below hb
    rcases hr with ⟨rfl, rfl, rfl⟩ | ⟨g, off, rfl, hc, hc2, hB, hg, hcell⟩
    · omega
    have c := hcell j hj
    obtain ⟨c0, c1, c2⟩ := cells3 ((hb.block w.heap.size (Array.getElem?_eq_some_iff.1 C0.out).1).trans C0.out)
    have W2 := Lib.hid (Buf.then_ W0.out hb)
    have HM : Hid (Got ms first n (first + j) (.returned (.tuple #[.string (ms.getD j ByteArray.empty), .bool true]))) := Lib.hid (.inl ⟨j, hj, rfl, rfl⟩)
    generalize ms.getD j ByteArray.empty = s at c HM
    replace c : w2.cell? ⟨g, off + (first + (j : Int) - first).toNat, none⟩ = some (.string s) := by rw [show (first + (j : Int) - first).toNat = j by omega]; exact c
    clear hcell hb hn c0
    go_wp2
    go_ret2
    exact ⟨HM.out, W2.out⟩
  · have hk' : k < first ∨ first + n ≤ k := by omega
    have HM : Hid (Got ms first n k (.returned (.tuple #[.string ⟨#[]⟩, .bool false]))) := Lib.hid (.inr ⟨hk', rfl⟩)
    clear hk
    go_enter Try.func19, Try.ntmps19
    go_wp2_with fail
    generalize w.alloc (.cells #[.int .i64 size, .int .i64 first, .slice a n cap] 25) = w1 at *
    obtain ⟨a0, a1, a2⟩ := cells3 C0.out
    refine Buf.region_calm w1 (by kernel_rfl) (by kernel_rfl) (Below.refl _ _) ?_
    clear a0 a1 a2
    repeat (go_big_quiet_step ((intro hC; first
      | (go_at_call 15; exact Buf.calm hC (valid_yes size first HG.out (HR.out.below hC)))
      | (go_at_call 17; exact Buf.calm hC (next_any size first f0 f1 (by omega)))
      | (go_at_call 27; exact Buf.calmN hC (within_no _ _ _ _ (by omega)))
      | rfl
      | (simp only [(cells3 ((hC.block w.heap.size (Array.getElem?_eq_some_iff.1 C0.out).1).trans C0.out)).1, (cells3 ((hC.block w.heap.size (Array.getElem?_eq_some_iff.1 C0.out).1).trans C0.out)).2.1, (cells3 ((hC.block w.heap.size (Array.getElem?_eq_some_iff.1 C0.out).1).trans C0.out)).2.2, Result.andThen_ok]; exact ⟨trivial, rfl⟩))))
    refine wpQuiet_nil ?_
    intro w2 hb
    have W2 := Lib.hid (Buf.then_ W0.out hb)
    clear hb hk'
    go_wp2
    go_ret2
    exact ⟨HM.out, W2.out⟩
end Snd
end Go.Proofs.Ytganalieljmkmaa
