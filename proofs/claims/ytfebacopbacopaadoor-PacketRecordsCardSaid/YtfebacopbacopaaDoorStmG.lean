/- Words, Frames, frame. -/
import Derived.Test.YtfebacopbacopaaDoorStmF
import Derived.Test.YtfebacopbacopaaDoorPut
import Derived.Test.YtfebacopbacopaaDoorGet
import Derived.Test.YtfebacopbacopaaDoorNtxR
set_option linter.unusedVariables false
set_option linter.unusedSimpArgs false
namespace Go.Proofs.YtfebacopbacopaaDoor
open Go.RowKit Dice Ri Rk Go.Shelf
namespace St
theorem extraR : Builder.Extra Tryd.prog NtxR.ren where
  sizeBuilder := by kernel_rfl
  liesBuilder := by kernel_rfl
  t5 := Tryd.underlying5
  a5 := Tryd.isAgg5
  z5 := Tryd.sizeOf5
  v5 := Tryd.zeroValue5
  infoByte := by kernel_rfl
  cellsByte := by kernel_rfl
  sizeByte := by kernel_rfl
  neB5 := by decide
theorem rep0 : ∀ c, Lib.repeatL [0] c = List.replicate c 0
  | 0 => rfl
  | c + 1 => by rw [Lib.repeatL, rep0 c]; rfl
theorem repeat_any (c : Nat) (w : World) (hc : c ≤ 100) :
    Calls Tryd.prog 67 #[.string ⟨⟨[0]⟩⟩, .int .i64 c] w fun e w' => e = .returned (.string ⟨⟨List.replicate c 0⟩⟩) ∧ Below w.heap.size w w' := by
  have h := Any.strings_Repeat NtxR.lays extraR ⟨⟨[0]⟩⟩ c w (by omega) (by show 1 * c ≤ 140737488355328; omega)
  refine Calls.mono h ?_
  rintro e w' ⟨he, hb'⟩
  refine ⟨he.trans ?_, hb'⟩
  show Ending.returned (.string ⟨(Lib.repeatL [0] c).toArray⟩) = _
  rw [rep0]
theorem Wds.form {w : World} {B : Nat} {v : Value} {l : List (Nat × Int)} (h : Wds w B v l) : ∃ a c, v = .slice a l.length c ∧ l.length ≤ c := by
  rcases own_shape h with ⟨rfl, h0⟩ | ⟨g, c, rfl, hc, _⟩
  · exact ⟨none, 0, by rw [h0], by omega⟩
  · exact ⟨_, c, rfl, hc⟩
def fo (k : Nat) : Nat := 1 + (k + 1) / 15
theorem framesOf_any (k : Nat) (hk : k ≤ 100000) (w : World) :
    Calls Tryd.prog 45 #[.int .i64 (k : Nat)] w fun e w' => e = .returned (.int .i64 (fo k : Nat)) ∧ w' = w := by
  by_cases h : k ≤ 13
  · have e : ((fo k : Nat) : Int) = 1 := by unfold fo; omega
    have hi : (k : Int) ≤ 13 := by omega
    rw [e]
    go_enter Tryd.func45, Tryd.ntmps45
    go_wp2
    go_ret
    exact ⟨rfl, rfl⟩
  · have hi : ¬ (k : Int) ≤ 13 := by omega
    have e : ((fo k : Nat) : Int) = 1 + ((k : Int) - 13 + 15 - 1).tdiv 15 := by
      unfold fo
      rw [Int.tdiv_eq_ediv_of_nonneg (by omega)]; omega
    obtain ⟨r, hr⟩ : ∃ r : Int, r = ((fo k : Nat) : Int) := ⟨_, rfl⟩
    rw [← hr] at e ⊢
    replace hr := Lib.hid hr
    replace e := Lib.hid e
    go_enter Tryd.func45, Tryd.ntmps45
    go_wp2
    go_ret
    have e9 : 1 + ((k : Int) - 13 + 15 - 1) / 15 = r := by
      have h3 := hr.out
      unfold fo at h3
      omega
    exact ⟨by rw [← e9]; rfl, rfl⟩
end St
end Go.Proofs.YtfebacopbacopaaDoor
