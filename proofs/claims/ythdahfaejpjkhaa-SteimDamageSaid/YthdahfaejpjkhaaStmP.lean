/- Samples that are moved; the words of the first and the last sample. -/
import Derived.Test.YthdahfaejpjkhaaStmO
set_option linter.unusedVariables false
set_option linter.unusedSimpArgs false
namespace Go.Proofs.Ythdahfaejpjkhaa
open Go.RowKit Dice Ri Rk
namespace St
theorem dfr_map (p b : Int) (l : List Int) : dfr (p + b) (l.map (· + b)) = dfr p l := by
  induction l generalizing p with
  | nil => rfl
  | cons x l ih =>
    simp only [List.map_cons, dfr]
    rw [ih]
    congr 1
    omega
theorem df_map (b : Int) (l : List Int) : df (l.map (· + b)) = df l := by
  cases l with
  | nil => rfl
  | cons x l => simp only [List.map_cons, df]; rw [dfr_map]
theorem hdk_congr {c c' : List (Nat × Int)} (h : ∀ i, (c.getD i (0, 0)).1 = (c'.getD i (0, 0)).1) : ∀ k, hdk c k = hdk c' k
  | 0 => rfl
  | k + 1 => by simp only [hdk]; rw [hdk_congr h k, h k]
/-- Only the words 1 and 2 depend on the first and the last sample. -/
theorem allw_two (F : Nat) (hF : 1 ≤ F) (ws : List (Nat × Int)) : ∃ h rest, rest.length = 16 * F - 3 ∧ ∀ f l, allw F ((0, f) :: (0, l) :: ws) = h :: f :: l :: rest := by
  obtain ⟨n, rfl⟩ : ∃ n, F = n + 1 := ⟨F - 1, by omega⟩
  refine ⟨hdk ((0, 0) :: (0, 0) :: ws.take 13) ((ws.take 13).length + 2), ((ws.take 13).map (·.2) ++ List.replicate (15 - ((ws.take 13).length + 2)) 0) ++ allw n (ws.drop 13), ?_, fun f l => ?_⟩
  · have := List.length_take (i := 13) (l := ws)
    simp only [List.length_append, List.length_map, List.length_replicate, allw_length]
    omega
  · have hc : hdk ((0, f) :: (0, l) :: ws.take 13) ((ws.take 13).length + 2) = hdk ((0, 0) :: (0, 0) :: ws.take 13) ((ws.take 13).length + 2) :=
      hdk_congr (fun i => by
        cases i with
        | zero => rfl
        | succ i => cases i with
          | zero => rfl
          | succ i => rfl) _
    show fw ((0, f) :: (0, l) :: ws.take 13) ++ allw n (ws.drop 13) = _
    unfold fw
    simp only [List.length_cons, List.map_cons]
    rw [show (ws.take 13).length + 1 + 1 = (ws.take 13).length + 2 from rfl, hc]
    rfl
theorem bys3 (h f l : Int) (rest : List Int) : bys (h :: f :: l :: rest) = be4 h ++ (be4 f ++ be4 l) ++ bys rest := by
  simp [bys]
/-- The bytes of two encodings of samples that differ by a constant. -/
theorem enc_bytes (F : Nat) (hF : 1 ≤ F) (ws : List (Nat × Int)) (f l f' l' : Int) (i : Nat) (hi : i < 4 ∨ 12 ≤ i) :
    (bys (allw F ((0, f) :: (0, l) :: ws)))[i]? = (bys (allw F ((0, f') :: (0, l') :: ws)))[i]? := by
  obtain ⟨h, rest, _, e⟩ := allw_two F hF ws
  rw [e, e, bys3, bys3]
  have h4 : ∀ v, (be4 v).length = 4 := be4_length
  rcases hi with hi | hi
  · have e1 : ∀ f l, (be4 h ++ (be4 f ++ be4 l) ++ bys rest)[i]? = (be4 h)[i]? := fun f l => by rw [List.append_assoc, List.getElem?_append_left (by rw [h4]; exact hi)]
    rw [e1, e1]
  · rw [List.getElem?_append_right (by simp [h4]; omega), List.getElem?_append_right (by simp [h4]; omega)]
    simp [h4]
theorem enc_len (L : List Int) : (enc L).length = 64 * fo (wds (df L)).length := by
  unfold enc; rw [bys_length, allw_length]; omega
theorem RI.ro {w : World} {B : Nat} {v : Value} {L : List Int} (h : RI w B v L) : ∃ a n c, v = .slice a n c ∧ n = L.length ∧ Ro w a n c L := by
  by_cases h9 : L.length ≤ 100000
  · obtain ⟨a, c, e, r⟩ := ro_ri h h9
    exact ⟨a, _, c, e, rfl, r⟩
  · rcases h.2 with ⟨rfl, h0⟩ | ⟨g, cap, cur, rfl, hB, hg, hc, hm, hs, ht⟩
    · omega
    · refine ⟨_, _, cap, rfl, rfl, ⟨rfl, hc, by unfold maxLen at hm; omega, fun h0 => ⟨g, 0, rfl, (Array.getElem?_eq_some_iff.1 hg).1, fun j x hx => ?_⟩⟩⟩
      rw [Nat.zero_add]
      refine (cell_of_row w g j _ _ _ hg).trans ?_
      have : (cur.toList.take (L.length * 1))[j]? = some (.int .i64 x) := by rw [ht]; simp [iv, hx]
      rw [List.getElem?_take] at this
      split at this
      · simpa using this
      · cases this
end St
end Go.Proofs.Ythdahfaejpjkhaa
