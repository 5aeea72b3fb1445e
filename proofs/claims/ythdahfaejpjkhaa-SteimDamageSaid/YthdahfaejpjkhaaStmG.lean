/- Words, Frames, frame. -/
import Derived.Test.YthdahfaejpjkhaaStmF
import Derived.Test.YthdahfaejpjkhaaPut
import Derived.Test.YthdahfaejpjkhaaGet
import Derived.Test.YthdahfaejpjkhaaNtxR
set_option linter.unusedVariables false
set_option linter.unusedSimpArgs false
namespace Go.Proofs.Ythdahfaejpjkhaa
open Go.RowKit Dice Ri Rk Go.Shelf
namespace St
theorem extraR : Builder.Extra Try.prog NtxR.ren where
  sizeBuilder := by kernel_rfl
  liesBuilder := by kernel_rfl
  t5 := Try.underlying5
  a5 := Try.isAgg5
  z5 := Try.sizeOf5
  v5 := Try.zeroValue5
  infoByte := by kernel_rfl
  cellsByte := by kernel_rfl
  sizeByte := by kernel_rfl
  neB5 := by decide
theorem rep0 : ∀ c, Lib.repeatL [0] c = List.replicate c 0
  | 0 => rfl
  | c + 1 => by rw [Lib.repeatL, rep0 c]; rfl
theorem repeat_any (c : Nat) (w : World) (hc : c ≤ 100) :
    Calls Try.prog 42 #[.string ⟨⟨[0]⟩⟩, .int .i64 c] w fun e w' => e = .returned (.string ⟨⟨List.replicate c 0⟩⟩) ∧ Below w.heap.size w w' := by
  have h := Any.strings_Repeat NtxR.lays extraR ⟨⟨[0]⟩⟩ c w (by omega) (by show 1 * c ≤ 140737488355328; omega)
  refine Calls.mono h ?_
  rintro e w' ⟨he, hb'⟩
  refine ⟨he.trans ?_, hb'⟩
  show Ending.returned (.string ⟨(Lib.repeatL [0] c).toArray⟩) = _
  rw [rep0]
theorem Wds.form {w : World} {B : Nat} {v : Value} {l : List (Nat × Int)} (h : Wds w B v l) : ∃ a c, v = .slice a l.length c ∧ l.length ≤ c := by
  rcases own_shape h with ⟨rfl, h0⟩ | ⟨g, c, rfl, hc, _⟩
  · exact ⟨none, 0, by rw [h0], by omega⟩
  · exact ⟨_, c, rfl, hc⟩
theorem words_any {w : World} {a : Option Addr} {n c : Nat} {L : List Int} (h : Ro w a n c L) (h9 : n ≤ 100000) (hL : InS L) :
    Calls Try.prog 17 #[.slice a n c] w fun e w' => e = .returned (.int .i64 ((wds (df L)).length : Nat)) ∧ Below w.heap.size w w' := by
  have IR := Lib.hid (inRange_any h hL)
  have DW := Lib.hid (dataWords_any h h9 hL)
  clear h hL
  go_enter Try.func17, Try.ntmps17
  go_wp2_with fail
  with_reducible refine IR.out.mono ?_
  rintro e w1 ⟨rfl, hw⟩
  replace hw := hw.symm
  subst hw
  go_wp2_with fail
  with_reducible refine DW.out.mono ?_
  rintro e w2 ⟨⟨v, rfl, O⟩, hb⟩
  obtain ⟨b, m, rfl, _⟩ := O.form
  go_wp2_with fail
  go_ret
  exact ⟨rfl, hb⟩
def fo (k : Nat) : Nat := 1 + (k + 1) / 15
theorem framesOf_any (k : Nat) (hk : k ≤ 100000) (w : World) :
    Calls Try.prog 24 #[.int .i64 (k : Nat)] w fun e w' => e = .returned (.int .i64 (fo k : Nat)) ∧ w' = w := by
  by_cases h : k ≤ 13
  · have e : ((fo k : Nat) : Int) = 1 := by unfold fo; omega
    have hi : (k : Int) ≤ 13 := by omega
    rw [e]
    go_enter Try.func24, Try.ntmps24
    go_wp2
    go_ret
    exact ⟨rfl, rfl⟩
  · have hi : ¬ (k : Int) ≤ 13 := by omega
    have e : ((fo k : Nat) : Int) = 1 + ((k : Int) - 13 + 15 - 1).tdiv 15 := by
      unfold fo
      rw [Int.tdiv_eq_ediv_of_nonneg (by omega)]; omega
    obtain ⟨r, hr⟩ : ∃ r : Int, r = ((fo k : Nat) : Int) := ⟨_, rfl⟩
    rw [← hr] at e ⊢
    replace hr := Lib.hid hr
    replace e := Lib.hid e
    go_enter Try.func24, Try.ntmps24
    go_wp2
    go_ret
    have e9 : 1 + ((k : Int) - 13 + 15 - 1) / 15 = r := by
      have h3 := hr.out
      unfold fo at h3
      omega
    exact ⟨by rw [← e9]; rfl, rfl⟩
theorem frames_any {w : World} {a : Option Addr} {n c : Nat} {L : List Int} (h : Ro w a n c L) (h9 : n ≤ 100000) (hL : InS L) (h1 : 1 ≤ n) :
    Calls Try.prog 18 #[.slice a n c] w fun e w' => e = .returned (.int .i64 (fo (wds (df L)).length : Nat)) ∧ Below w.heap.size w w' := by
  have WA := words_any h h9 hL
  have hl := wds_len (df L)
  rw [df_length, ← h.len] at hl
  clear h hL
  generalize (wds (df L)).length = k at *
  have FO := Lib.hid (framesOf_any k (by omega))
  replace WA := Lib.hid WA
  have hk : ((k : Int) == 0) = false := by rw [beq_eq_false_iff_ne]; omega
  go_enter Try.func18, Try.ntmps18
  go_wp2_with fail
  with_reducible refine WA.out.mono ?_
  rintro e w1 ⟨rfl, hb⟩
  go_wp2_with fail
  with_reducible refine (FO.out _).mono ?_
  rintro e w2 ⟨rfl, hw⟩
  subst hw
  go_wp2_with fail
  go_ret
  exact ⟨rfl, hb⟩
end St
end Go.Proofs.Ythdahfaejpjkhaa
