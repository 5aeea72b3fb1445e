/- What is encoded is decoded; Canonical. -/
import Derived.Test.YtfebacopbacopaaDoorStmM
set_option linter.unusedVariables false
set_option linter.unusedSimpArgs false
namespace Go.Proofs.YtfebacopbacopaaDoor
open Go.RowKit Dice Ri Rk
namespace St
/-- Words of samples with any word for the last one. -/
def ewy (L : List Int) (y : Int) : List (Nat × Int) := (0, L.getD 0 0 % 4294967296) :: (0, y) :: wds (df L)
theorem ew_ewy (L : List Int) : ew L = ewy L (L.getD (L.length - 1) 0 % 4294967296) := rfl
theorem ewy_ok (L : List Int) (y : Int) (h0 : 0 ≤ y) (h1 : y ≤ 4294967295) : ∀ p ∈ ewy L y, WOk p := fun p hp => by
  unfold ewy at hp
  rcases List.mem_cons.1 hp with rfl | hp
  · exact ⟨by simp, by simp; omega, by simp; omega⟩
  · rcases List.mem_cons.1 hp with rfl | hp
    · exact ⟨by simp, h0, h1⟩
    · exact wds_ok _ p hp
theorem rw_word (F : Nat) (ws : List (Nat × Int)) (h : ∀ p ∈ ws, WOk p) (i : Nat) (hF : 1 ≤ F) (hi : i < 15) : (allw F ws).getD (i + 1) 0 = (ws.getD i (0, 0)).2 ∧ Ma.pr ((allw F ws).getD 0 0) (14 - i) = ((ws.getD i (0, 0)).1 : Nat) := by
  have e := rw_allw F ws h 0 i (by omega) hi
  simp only [Nat.mul_zero, Nat.zero_add] at e
  unfold rw_ at e
  rw [show (i + 1) / 16 = 0 by omega, show (i + 1) % 16 = i + 1 by omega, Nat.mul_zero] at e
  have e1 := congrArg Prod.fst e
  have e2 := congrArg Prod.snd e
  simp only at e1 e2
  refine ⟨e2, ?_⟩
  have p := Ma.pr_rng ((allw F ws).getD 0 0) (15 - (i + 1))
  rw [show 15 - (i + 1) = 14 - i by omega] at e1 p
  omega
theorem wf_allw (F : Nat) (L : List Int) (y : Int) (h0 : 0 ≤ y) (h1 : y ≤ 4294967295) (f1 : 1 ≤ F) (f8 : F ≤ 8) : WF (allw F (ewy L y)) F := by
  have ok := ewy_ok L y h0 h1
  refine ⟨allw_length F _, f1, f8, allw_32 F _ ok, fun q hq => ?_, ?_, ?_⟩
  · have g0 : (allw F (ewy L y)).getD (16 * q) 0 = _ := allw_get F (ewy L y) q 0 hq (by omega)
    rw [g0]
    exact fw_pr0 (fun p hp => ok p (List.mem_of_mem_drop (List.mem_of_mem_take hp))) (take15 _)
  · exact (rw_word F _ ok 0 f1 (by omega)).2
  · exact (rw_word F _ ok 1 f1 (by omega)).2
theorem fo_room (k : Nat) : k + 2 ≤ 15 * fo k := by unfold fo; omega
theorem un_all (L : List Int) (y : Int) (h0 : 0 ≤ y) (h1 : y ≤ 4294967295) (hL : InS L) : UN (allw (fo (wds (df L)).length) (ewy L y)) (16 * fo (wds (df L)).length) = df L := by
  rw [UN_allw _ _ (ewy_ok L y h0 h1) _ (Nat.le_refl _), List.take_of_length_le (by have := fo_room (wds (df L)).length; simp [ewy]; omega)]
  show un (0, _) ++ (un (0, _) ++ (wds (df L)).flatMap un) = _
  rw [un_none, un_none, un_wds _ (df_in L hL)]; rfl
theorem sg32 (x : Int) (h : -1073741823 ≤ x ∧ x ≤ 1073741823) : Ma.sg (x % 4294967296) 2147483648 4294967296 = x := Ma.sg_mod x 2147483648 4294967296 rfl (by omega) (by omega)
theorem getD_in {L : List Int} (h : InS L) (i : Nat) : -1073741823 ≤ L.getD i 0 ∧ L.getD i 0 ≤ 1073741823 := by
  by_cases hi : i < L.length
  · exact h _ (by rw [List.getD_eq_getElem?_getD, List.getElem?_eq_getElem hi]; exact List.getElem_mem _)
  · have e : L.getD i 0 = 0 := by simp [List.getD, show L.length ≤ i by omega]
    rw [e]; omega
theorem take_getD' (L : List Int) (m i : Nat) (h : i < m) : (L.take m).getD i 0 = L.getD i 0 := by
  rw [List.getD_eq_getElem?_getD, List.getElem?_take_of_lt h, ← List.getD_eq_getElem?_getD]
/-- Decoding the first m samples of words. -/
theorem decode_encB (L : List Int) (hL : InS L) (y : Int) (h0 : 0 ≤ y) (h1 : y ≤ 4294967295) (hf : fo (wds (df L)).length ≤ 8) (m : Nat) (m1 : 1 ≤ m) (m9 : m ≤ L.length) (l9 : L.length ≤ 420) (z2 : Int) (hz : Ma.sg y 2147483648 4294967296 = z2) (w : World) :
    Calls Tryd.prog 53 #[.string ⟨⟨bys (allw (fo (wds (df L)).length) (ewy L y))⟩⟩, .int .i64 (m : Nat)] w fun e w' =>
      ((L.getD (m - 1) 0 = z2 ∧ ∃ b c, e = .returned (.tuple #[.slice b m c, .int .i64 0]) ∧ Ro w' b m c (L.take m) ∧ (∀ g o, b = some ⟨g, o, none⟩ → w.heap.size ≤ g)) ∨ (L.getD (m - 1) 0 ≠ z2 ∧ e = .returned (.tuple #[.slice none 0 0, .int .i64 11]))) ∧ Below w.heap.size w w' := by
  have f1 : 1 ≤ fo (wds (df L)).length := by unfold fo; omega
  have ok := ewy_ok L y h0 h1
  have hW := wf_allw _ L y h0 h1 f1 hf
  have hU := un_all L y h0 h1 hL
  have w1 : (allw (fo (wds (df L)).length) (ewy L y)).getD 1 0 = L.getD 0 0 % 4294967296 := (rw_word _ _ ok 0 f1 (by omega)).1
  have w2 : (allw (fo (wds (df L)).length) (ewy L y)).getD 2 0 = y := (rw_word _ _ ok 1 f1 (by omega)).1
  exact decode_anyB _ _ hW (L.take m) m (by rw [List.length_take]; omega) m1 (by omega) (fun x hx => hL x (List.mem_of_mem_take hx))
    (by rw [take_getD' L m 0 (by omega), w1, sg32 _ (getD_in hL 0)]) (by rw [hU, df_length]; exact m9)
    (fun i i1 i2 => by
      rw [hU, take_getD' L m i i2, take_getD' L m (i - 1) (by omega), List.getD_eq_getElem?_getD, df_get L i (by omega), if_neg (by omega)]; rfl)
    (L.getD (m - 1) 0) z2 (take_getD' L m (m - 1) (by omega)) (by rw [w2, hz]) w
theorem decode_enc (L : List Int) (hL : InS L) (y : Int) (h0 : 0 ≤ y) (h1 : y ≤ 4294967295) (hf : fo (wds (df L)).length ≤ 8) (m : Nat) (m1 : 1 ≤ m) (m9 : m ≤ L.length) (l9 : L.length ≤ 420) (z2 : Int) (hz : Ma.sg y 2147483648 4294967296 = z2) (w : World) :
    Calls Tryd.prog 53 #[.string ⟨⟨bys (allw (fo (wds (df L)).length) (ewy L y))⟩⟩, .int .i64 (m : Nat)] w fun e w' =>
      ((L.getD (m - 1) 0 = z2 ∧ ∃ b c, e = .returned (.tuple #[.slice b m c, .int .i64 0]) ∧ Ro w' b m c (L.take m)) ∨ (L.getD (m - 1) 0 ≠ z2 ∧ e = .returned (.tuple #[.slice none 0 0, .int .i64 11]))) ∧ Below w.heap.size w w' :=
  (decode_encB L hL y h0 h1 hf m m1 m9 l9 z2 hz w).mono fun e w' ⟨q, b⟩ => ⟨q.imp (fun ⟨x, b, c, y, z, _⟩ => ⟨x, b, c, y, z⟩) id, b⟩
end St
end Go.Proofs.YtfebacopbacopaaDoor
