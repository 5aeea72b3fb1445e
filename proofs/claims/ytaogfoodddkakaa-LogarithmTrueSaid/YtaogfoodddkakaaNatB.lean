/- Contracts of package nat: From for one limb, trim, limited, mul with one limb, Mul. -/
import Derived.Test.YtaogfoodddkakaaNatM
namespace Go.Proofs.Ytaogfoodddkakaa
open Go.RowKit
namespace Nat'
theorem infoI : (Try.prog.info? 3).map (fun i => (i.zero, i.size, i.bytes)) = some (some (.int .i64 0), 1, 8) := by kernel_rfl
def iv (L : List Int) : List Value := L.map (.int .i64)
theorem iv_length (L : List Int) : (iv L).length = L.length := by simp [iv]
theorem Sl.of_own {B : Nat} {w : World} {g c n : Nat} {L : List Int} (h : Buf.Own B w (.slice (some ⟨g, 0, none⟩) n c) (iv L)) (h0 : 0 < L.length) (h1 : L.length ≤ 64) : Sl w g c L := by
  obtain ⟨g', c', e, _, hl, hc, _⟩ := h.parts (by rw [iv_length]; exact h0)
  injection e with e1 e2 e3
  injection e1 with e1
  injection e1 with e1
  subst e1 e3
  refine ⟨h0, by rw [iv_length] at hl; exact hl, h1, fun j hj => ?_⟩
  rw [hc j (by rw [iv_length]; exact hj)]
  simp [iv, List.getD, hj]
theorem own_of_row {B n : Nat} {w : World} {e : TypeId} {g : Nat} {xs : List Value} (h : w.ownsRow B e 1 (.slice (some ⟨g, 0, none⟩) n n) n xs) (hm : n ≤ maxLen) : Buf.Own B w (.slice (some ⟨g, 0, none⟩) n n) xs ∧ xs.length = n := by
  obtain ⟨hl, h⟩ := h
  rw [Nat.mul_one] at hl
  rcases h with ⟨e, _⟩ | ⟨g', cap, cur, e, hB, hg, _, _, hcur, htake⟩
  · cases e
  · injection e with e1 e2 e3
    injection e1 with e1
    injection e1 with e1
    subst e1 e3
    rw [Nat.mul_one] at hcur htake
    have hlt := (Array.getElem?_eq_some_iff.1 hg).1
    have hc : ∀ j, w.cell? ⟨g, j, none⟩ = cur[j]? := fun j => cell_of_row w g j _ _ _ hg
    have hx : cur.toList = xs := by rw [← htake, List.take_of_length_le (by simp; omega)]
    refine ⟨.inr ⟨g, n, by rw [hl], hB, hlt, rfl, by omega, hm, fun j hj => ?_, fun j hj => ?_, fun j hj => frozen_of_row w g j _ _ hg⟩, hl⟩
    · rw [hc, ← hx]; simp
    · rw [hc, Array.getElem?_eq_getElem (by omega)]; rfl
theorem limited_any (v : Option Addr) (n c : Nat) (w : World) (h : n ≤ 64) :
    Calls Try.prog 28 #[.slice v n c] w fun e w' => e = .returned (.tuple #[.slice v n c, .int .i64 0]) ∧ w' = w := by
  have hd : decide (64 < (n : Int)) = false := by simp; omega
  go_enter Try.func28, Try.ntmps28
  go_wp2
  go_ret2
  exact ⟨rfl, rfl⟩
theorem trim_keep (g n c : Nat) (x : Int) (w : World) (h0 : 0 < n) (h1 : n ≤ 65) (h2 : n ≤ c) (hx : 1 ≤ x) (hc : w.cell? ⟨g, n - 1, none⟩ = some (.int .i64 x)) :
    Calls Try.prog 38 #[.slice (some ⟨g, 0, none⟩) n c] w fun e w' => e = .returned (.slice (some ⟨g, 0, none⟩) n c) ∧ w' = w := by
  obtain ⟨k, rfl⟩ : ∃ k, n = k + 1 := ⟨n - 1, by omega⟩
  rw [Nat.add_sub_cancel] at hc
  have e1 : ((k + 1 : Nat) : Int) - 1 = (k : Int) := by omega
  have hz : (x == 0) = false := by rw [beq_eq_false_iff_ne]; omega
  go_enter Try.func38, Try.ntmps38
  go_wp2
  go_loop [0] (fun u => u = .slice (some ⟨g, 0, none⟩) (k + 1) c) (fun _ => 0)
  case atStart => rfl
  case round =>
    obtain rfl := hrel
    go_wp2
    go_ret
    exact ⟨rfl, rfl⟩
theorem trim_one (g n c : Nat) (x : Int) (w : World) (h0 : 0 < n) (h1 : n ≤ 64) (h2 : n + 1 ≤ c) (hx : 1 ≤ x) (hc : w.cell? ⟨g, n - 1, none⟩ = some (.int .i64 x)) (hc' : w.cell? ⟨g, n, none⟩ = some (.int .i64 0)) :
    Calls Try.prog 38 #[.slice (some ⟨g, 0, none⟩) ((n + 1 : Nat)) c] w fun e w' => e = .returned (.slice (some ⟨g, 0, none⟩) n c) ∧ w' = w := by
  obtain ⟨k, rfl⟩ : ∃ k, n = k + 1 := ⟨n - 1, by omega⟩
  rw [Nat.add_sub_cancel] at hc
  have hz : (x == 0) = false := by rw [beq_eq_false_iff_ne]; omega
  go_enter Try.func38, Try.ntmps38
  go_wp2
  go_loop [0] (fun u => ∃ b : Nat, (b = 0 ∨ b = 1) ∧ u = .slice (some ⟨g, 0, none⟩) (k + 1 + b) c) (fun u => match u with | .slice _ n _ => n | _ => 0)
  case atStart => exact ⟨1, .inr rfl, rfl⟩
  case round =>
    obtain ⟨b, hb, rfl⟩ := hrel
    rcases hb with rfl | rfl
    · have e1 : ((k + 1 + 0 : Nat) : Int) - 1 = (k : Int) := by omega
      clear hc'
      go_wp2
      go_ret
      exact ⟨rfl, rfl⟩
    · have e1 : ((k + 1 + 1 : Nat) : Int) - 1 = ((k + 1 : Nat) : Int) := by omega
      clear hc
      go_wp2
      go_round
      case rel => exact ⟨0, .inl rfl, rfl⟩
      case measure => simp
theorem from_one (n : Int) (w : World) (h0 : 1 ≤ n) (h1 : n ≤ 1073741823) :
    Calls Try.prog 8 #[.int .i64 n] w fun e w' => ∃ g c, e = .returned (.tuple #[.slice (some ⟨g, 0, none⟩) 1 c, .int .i64 0]) ∧ Sl w' g c [n] ∧ Below w.heap.size w w' := by
  obtain ⟨i0, hi, hz0, hz1, hz2⟩ := info_parts infoI
  have hm : n % 1073741824 = n := by omega
  have hdv : n / 1073741824 = 0 := by omega
  go_enter Try.func8, Try.ntmps8
  go_wp2
  go_loopw [0, 4] (fun u v wr => (u = .int .i64 n ∧ v = .slice none 0 0 ∧ wr = w) ∨ (u = .int .i64 0 ∧ Buf.Own w.heap.size wr v (iv [n]) ∧ Below w.heap.size w wr)) (fun u _ _ => (intOf u).toNat)
  case atStart => exact .inl ⟨rfl, rfl, rfl⟩
  case round =>
    rcases hrel with ⟨rfl, rfl, rfl⟩ | ⟨rfl, hown, hb⟩
    · have hown := Buf.Own.nil wr.heap.size wr
      go_wp2_with (at_builtin; refine Buf.wpList_append_one rfl _ _ 26 rfl 3 _ i0 (.int .i64 0) 8 Try.underlying26 hi hz0 hz1 hz2 rfl rfl hown (Below.refl _ _) (Nat.le_refl _) (.int .i64 n) rfl rfl (by decide) (by decide) ?_; intro v' w' hown' hb' _)
      go_roundw
      case rel => exact .inr ⟨rfl, hown', hb'⟩
      case measure => simp [intOf]; omega
    · obtain ⟨g, c, rfl, _⟩ := hown.parts (show 0 < 1 by decide)
      go_wp2
      go_ret2
      exact ⟨g, c, rfl, Sl.of_own hown (show 0 < 1 by decide) (show 1 ≤ 64 by decide), hb⟩
/-- make of a number of ints. -/
theorem wpList_make_ints {P : Program} (w : World) {ops : Array Oper} {rest : List Oper} {o : Oper} {a : Act} {Q : Exit → Act → World → Prop}
    (hg : o.guard = none) (l c : Operand) (t : TypeId) (hop : o.op = Op.makeSlice t l c) (e : TypeId) (i : TypeInfo) (h1 : P.underlying t = some (.slice e)) (h2 : P.info? e = some i) (h3 : i.zero = some (.int .i64 0)) (h4 : i.size = 1) (h5 : i.bytes = 8)
    (N C : Int) (n : Nat) (hl : a.eval l = .int .i64 N) (hc : a.eval c = .int .i64 C) (hL : N = (n : Int)) (hC : C = (n : Int)) (b : n ≤ 1000000)
    (hK : ∀ w', Buf.Own w.heap.size w' (.slice (some ⟨w.heap.size, 0, none⟩) n n) (iv (List.replicate n 0)) → Below w.heap.size w w' → wpList P ops Q rest (a.put o.dst (.slice (some ⟨w.heap.size, 0, none⟩) n n)) w') :
    wpList P ops Q (o :: rest) a w := by
  refine wpList_make_full w hg l c t hop w.heap.size e i (.int .i64 0) 1 h1 h2 h3 h4 .i64 .i64 N C n hl hc hL hC (by rw [h5]; omega) (by unfold maxLen; omega) (Nat.le_refl _) fun w' hrow hgr => ?_
  obtain ⟨ho, _⟩ := own_of_row hrow (by unfold maxLen; omega)
  have e1 : (madeCells (Value.int .i64 0).cells (n * 1)).toList = iv (List.replicate n 0) := by
    rw [Nat.mul_one, show (Value.int .i64 0).cells = #[Value.int .i64 0] from rfl, toList_madeCells_one]
    simp [iv]
  rw [e1] at ho
  exact hK w' ho ((Below.refl _ _).grown hgr (Nat.le_refl _) fun k hk => by cases hk)
theorem iv_get (L : List Int) (j : Nat) (hj : j < L.length) (h : j < (iv L).length) : (iv L)[j] = .int .i64 (L.getD j 0) := by simp [iv, List.getD, hj]
theorem iv_set (L : List Int) (j : Nat) (x : Int) : (iv L).set j (.int .i64 x) = iv (L.set j x) := by simp [iv, List.map_set]
theorem row_read {B : Nat} {w : World} {g n c : Nat} {L : List Int} (h : Buf.Own B w (.slice (some ⟨g, 0, none⟩) n c) (iv L)) (j : Nat) (hj : j < L.length) : w.cell? ⟨g, j, none⟩ = some (.int .i64 (L.getD j 0)) ∧ w.frozen? ⟨g, j, none⟩ = false ∧ B ≤ g := by
  obtain ⟨g', c', e, hB, _, hc, hf⟩ := h.parts (by rw [iv_length]; omega)
  injection e with e1 e2 e3
  injection e1 with e1
  injection e1 with e1
  subst e1
  refine ⟨?_, hf j (by rw [iv_length]; exact hj), hB⟩
  rw [hc j (by rw [iv_length]; exact hj), iv_get L j hj]
theorem row_store {B : Nat} {w : World} {g n c : Nat} {L : List Int} (h : Buf.Own B w (.slice (some ⟨g, 0, none⟩) n c) (iv L)) (j : Nat) (x : Int) : Buf.Own B (w.setCell ⟨g, j, none⟩ (.int .i64 x)) (.slice (some ⟨g, 0, none⟩) n c) (iv (L.set j x)) := by
  have := h.store j (.int .i64 x)
  rwa [iv_set] at this
end Nat'
end Go.Proofs.Ytaogfoodddkakaa
