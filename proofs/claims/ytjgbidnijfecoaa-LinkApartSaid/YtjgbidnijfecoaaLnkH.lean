/- slices.Insert of a message within a list. -/
import Derived.Test.YtjgbidnijfecoaaLnkE
import Derived.Laws.CopyOwn
import Derived.Laws.NewBlocks
import Derived.Lib.Overlaps
import Derived.Lib.AppendZerosOnto
set_option linter.unusedVariables false
set_option linter.unusedSimpArgs false
namespace Go.Proofs.Ytjgbidnijfecoaa
open Go.RowKit Wi Dice
namespace Lnk
section
variable {P : Program}
/-- copy of elements of k cells, dst in a row that is known whole. -/
theorem run_copy_rowK (w : World) (dT sT ty elem : TypeId) (k g o dLen dCap : Nat) (a : Addr) (sLen sCap : Nat) (cur : Array Value) (t : TypeId) (cs : List Value)
    (hu : P.underlying dT = some (.slice elem)) (hs : (P.info? elem).map (·.size) = some k)
    (hg : w.heap[g]? = some (.cells cur t (0, 0))) (hn : cs.length = Nat.min sLen dLen * k)
    (hsrc : ∀ j v, cs[j]? = some v → w.cell? (a.add j) = some v) (hfit : o + cs.length ≤ cur.size) (h1 : ∀ v ∈ cs, v.oneCell' = true) :
    (Builtin.copy_ #[dT, sT] ty #[.slice (some ⟨g, o, none⟩) dLen dCap, .slice (some a) sLen sCap]).run P w =
      .ok (goInt (Nat.min sLen dLen)) (w.setRow g (cur.toList.take o ++ cs ++ cur.toList.drop (o + cs.length)).toArray) := by
  have hl := run_loadCells_list (P := P) w a cs hsrc
  have hst := run_storeCells_at P g o t cs 0 cur w hg (by simpa using hfit) h1
  cases hq : P.info? elem with
  | none => simp [hq] at hs
  | some i =>
    have hi : i.size = k := by simpa [hq] using hs
    simp [Builtin.copy_, run_underlying hu, Builtin.lenOf, Builtin.firstCells, sizeOf, typeInfo, hq, hi, ← hn, hl, hst]
theorem setRow_grown (w : World) (g : Nat) (cs : Array Value) : w.grownBy (w.setRow g cs) (some g) :=
  ⟨rfl, rfl, rfl, by simp [World.setRow], fun k hk hne => setRow_other w g k cs (fun e => hne (by rw [e]))⟩
theorem wpList_copyK {w : World} {ops : Array Oper} {rest : List Oper} {o : Oper} {a : Act} {Q : Exit → Act → World → Prop} (hgd : o.guard = none) (d s : Operand) (dT sT : TypeId)
    (ho : o.op = .call { callee := .builtin .copy, args := #[d, s], argTypes := #[dT, sT] }) (elem : TypeId) (k : Nat) (hu : P.underlying dT = some (.slice elem)) (hsz : (P.info? elem).map (·.size) = some k)
    (g off dLen dCap : Nat) (ad : Addr) (sLen sCap : Nat) (hd : a.eval d = .slice (some ⟨g, off, none⟩) dLen dCap) (hs : a.eval s = .slice (some ad) sLen sCap)
    (cur : Array Value) (t : TypeId) (hg : w.heap[g]? = some (.cells cur t (0, 0))) (cs : List Value) (hn : cs.length = Nat.min sLen dLen * k)
    (hsrc : ∀ j v, cs[j]? = some v → w.cell? (ad.add j) = some v) (hfit : off + cs.length ≤ cur.size) (h1 : ∀ v ∈ cs, v.oneCell' = true)
    (h : ∀ w', Hid (w'.heap[g]? = some (.cells (cur.toList.take off ++ cs ++ cur.toList.drop (off + cs.length)).toArray t (0, 0))) → Hid (w.grownBy w' (some g)) → wpList P ops Q rest (a.put o.dst (goInt (Nat.min sLen dLen))) w') : wpList P ops Q (o :: rest) a w := by
  refine wpList_plain hgd fun K hK => ?_
  have hrun := run_copy_rowK (P := P) w dT sT o.type elem k g off dLen dCap ad sLen sCap cur t cs hu hsz hg hn hsrc hfit h1
  unfold Oper.wp
  simp [execOp, ho, resolve, invoke, builtin, hd, hs, hrun, Result.andThen]
  have h2 := h _ (Lib.hid (setRow_heap w g _ _ t _ hg)) (Lib.hid (setRow_grown w g _))
  refine hK _ _ ?_
  simpa using h2
/-- To try a law only where a copy stands next. -/
theorem at_copy {w : World} {ops : Array Oper} {rest : List Oper} {a : Act} {Q : Exit → Act → World → Prop} {dst : Option Tmp} {t : TypeId} {pos : String} {af : Array Edge} {gd : Option (Nat × Bool)} {args : Array Operand} {tys : Array TypeId}
    (h : wpList P ops Q ({ dst := dst, op := .call { callee := .builtin .copy, args := args, argTypes := tys }, type := t, pos := pos, after := af, guard := gd } :: rest) a w) :
    wpList P ops Q ({ dst := dst, op := .call { callee := .builtin .copy, args := args, argTypes := tys }, type := t, pos := pos, after := af, guard := gd } :: rest) a w := h
theorem step_copyK {ops : Array Oper} {o : Oper} {a : Act} {w : World} {K : Act → World → Prop} {Q : Exit → Act → World → Prop} {E : Prop} (hgd : o.guard = none) (d s : Operand) (dT sT : TypeId)
    (ho : o.op = .call { callee := .builtin .copy, args := #[d, s], argTypes := #[dT, sT] }) (elem : TypeId) (k : Nat) (hu : P.underlying dT = some (.slice elem)) (hsz : (P.info? elem).map (·.size) = some k)
    (g off dLen dCap : Nat) (ad : Addr) (sLen sCap : Nat) (hd : a.eval d = .slice (some ⟨g, off, none⟩) dLen dCap) (hs : a.eval s = .slice (some ad) sLen sCap)
    (cur : Array Value) (t : TypeId) (hg : w.heap[g]? = some (.cells cur t (0, 0))) (cs : List Value) (hn : cs.length = Nat.min sLen dLen * k)
    (hsrc : ∀ j v, cs[j]? = some v → w.cell? (ad.add j) = some v) (hfit : off + cs.length ≤ cur.size) (h1 : ∀ v ∈ cs, v.oneCell' = true)
    (h : ∀ w', Hid (w'.heap[g]? = some (.cells (cur.toList.take off ++ cs ++ cur.toList.drop (off + cs.length)).toArray t (0, 0))) → Hid (w.grownBy w' (some g)) → K (a.put o.dst (goInt (Nat.min sLen dLen))) w') :
    if Region.wanted o (yielded ops a.tmps) = true then Oper.wp P o a w K Q else E := by
  have hw : Region.wanted o (yielded ops a.tmps) = true := by simp [Region.wanted, hgd]
  rw [if_pos hw]
  have hrun := run_copy_rowK (P := P) w dT sT o.type elem k g off dLen dCap ad sLen sCap cur t cs hu hsz hg hn hsrc hfit h1
  unfold Oper.wp
  simp [execOp, ho, resolve, invoke, builtin, hd, hs, hrun, Result.andThen]
  have h2 := h _ (Lib.hid (setRow_heap w g _ _ t _ hg)) (Lib.hid (setRow_grown w g _))
  have h3 : K (a.put o.dst (goInt (Nat.min sLen dLen))) (w.setRow g (List.take off cur.toList ++ (cs ++ List.drop (off + cs.length) cur.toList)).toArray) := by simpa using h2
  exact h3
end
/-- A list with a message put in at a place. -/
def put (L : List (Int × Int × ByteArray)) (i : Nat) (m : Int × Int × ByteArray) : List (Int × Int × ByteArray) := L.take i ++ m :: L.drop i
theorem put_length (L : List (Int × Int × ByteArray)) (i : Nat) (m : Int × Int × ByteArray) (h : i ≤ L.length) : (put L i m).length = L.length + 1 := by simp [put]; omega
theorem cellsT_take (L : List (Int × Int × ByteArray)) (k : Nat) : cellsT (L.take k) = (cellsT L).take (k * 3) := by
  induction L generalizing k with
  | nil => simp [cellsT]
  | cons p L ih =>
    cases k with
    | zero => simp [cellsT]
    | succ k =>
      have e : cellsT (p :: L) = .int .i64 p.1 :: .int .i64 p.2.1 :: .string p.2.2 :: cellsT L := by simp [cellsT]
      rw [e, show (k + 1) * 3 = k * 3 + 1 + 1 + 1 by omega]
      rw [List.take_succ_cons]
      have e' : cellsT (p :: L.take k) = .int .i64 p.1 :: .int .i64 p.2.1 :: .string p.2.2 :: cellsT (L.take k) := by simp [cellsT]
      rw [e', ih]; simp
theorem cellsT_drop' (L : List (Int × Int × ByteArray)) (k : Nat) : cellsT (L.drop k) = (cellsT L).drop (k * 3) := by
  induction L generalizing k with
  | nil => simp [cellsT]
  | cons p L ih =>
    cases k with
    | zero => simp
    | succ k =>
      have e : cellsT (p :: L) = .int .i64 p.1 :: .int .i64 p.2.1 :: .string p.2.2 :: cellsT L := by simp [cellsT]
      rw [e, show (k + 1) * 3 = k * 3 + 1 + 1 + 1 by omega]
      simpa using ih k
theorem cellsT_put (L : List (Int × Int × ByteArray)) (i : Nat) (m : Int × Int × ByteArray) : cellsT (put L i m) = (cellsT L).take (i * 3) ++ ([.int .i64 m.1, .int .i64 m.2.1, .string m.2.2] ++ (cellsT L).drop (i * 3)) := by
  unfold put
  rw [cellsT_append, cellsT_take, ← cellsT_drop']
  rfl
theorem grown_new {w w1 w2 : World} {r : Option Nat} {k : Nat} (h : w.grownBy w1 r) (h2 : w1.grownBy w2 (some k)) (hk : w.heap.size ≤ k) : w.grownBy w2 r :=
  ⟨h2.os.trans h.os, h2.tape.trans h.tape, h2.output.trans h.output, Nat.le_trans h.size h2.size, fun j hj hne => (h2.block j (Nat.lt_of_lt_of_le hj h.size) (fun e => by cases e; omega)).trans (h.block j hj hne)⟩
theorem own_of_row {w : World} {B g G : Nat} {cur : Array Value} {L : List (Int × Int × ByteArray)} {n : Nat} (hn : n = L.length) (hB : B ≤ g) (hg : w.heap[g]? = some (.cells cur 55 (0, 0))) (h1 : n ≤ G) (h2 : G ≤ maxLen) (h3 : cur.size = G * 3) (h4 : cur.toList.take (n * 3) = cellsT L) : OwnT w B (.slice (some ⟨g, 0, none⟩) n G) L := by
  subst hn
  exact ⟨cellsT_length L, .inr ⟨g, G, cur, rfl, hB, hg, h1, h2, h3, h4⟩⟩
/-- The row behind the two copies, where a new row was made. -/
theorem rows_grow {X Y R : List Value} {a : Nat} (n G : Nat) (hR : R.length = G * 3) (hn : n * 3 = X.length) (hG : n + 1 ≤ G) (ha : a ≤ X.length) (hY : Y.length = 3) (ht : R.take a = X.take a) :
    (((R.take a ++ Y ++ R.drop (a + 3)).take (a + 3) ++ X.drop a ++ (R.take a ++ Y ++ R.drop (a + 3)).drop (a + 3 + (X.length - a))).take ((n + 1) * 3) = X.take a ++ (Y ++ X.drop a)) ∧
    ((R.take a ++ Y ++ R.drop (a + 3)).take (a + 3) ++ X.drop a ++ (R.take a ++ Y ++ R.drop (a + 3)).drop (a + 3 + (X.length - a))).length = G * 3 := by
  have e0 : (R.take a ++ Y).length = a + 3 := by rw [List.length_append, List.length_take, hY]; omega
  have e1 : (R.take a ++ Y ++ R.drop (a + 3)).take (a + 3) = R.take a ++ Y := by
    rw [← e0, List.take_left]
  have e2 : (R.take a ++ Y ++ R.drop (a + 3)).length = G * 3 := by rw [List.length_append, e0, List.length_drop]; omega
  rw [e1, ht]
  constructor
  · rw [List.take_append_of_le_length (by simp; omega), List.append_assoc, List.take_of_length_le (by simp; omega)]
  · simp only [List.length_append, List.length_take, List.length_drop, e2, hY] at *
    omega
/-- The row behind the two copies, where there was room. -/
theorem rows_shift {X Y R : List Value} {a : Nat} (n G : Nat) (hR : R.length = G * 3) (hn : n * 3 = X.length) (hG : n + 1 ≤ G) (ha : a ≤ X.length) (hY : Y.length = 3) (ht : R.take (n * 3) = X) (C : List Value) (hC : C = R.take (a + 3) ++ X.drop a ++ R.drop (a + 3 + (X.length - a))) :
    ((C.take a ++ Y ++ C.drop (a + 3)).take ((n + 1) * 3) = X.take a ++ (Y ++ X.drop a)) ∧ (C.take a ++ Y ++ C.drop (a + 3)).length = G * 3 ∧ C.length = G * 3 := by
  have l0 : (R.take (a + 3)).length = a + 3 := by rw [List.length_take]; omega
  have lC : C.length = G * 3 := by rw [hC, List.length_append, List.length_append, l0, List.length_drop, List.length_drop]; omega
  have e1 : C.take a = X.take a := by
    rw [hC, List.append_assoc, List.take_append_of_le_length (by omega), List.take_take, Nat.min_eq_left (by omega), ← ht, List.take_take, Nat.min_eq_left (by omega)]
  have e2 : C.drop (a + 3) = X.drop a ++ R.drop (a + 3 + (X.length - a)) := by
    rw [hC, List.append_assoc]
    exact List.drop_left' l0
  refine ⟨?_, ?_, lC⟩
  · rw [e1, e2, ← List.append_assoc, List.take_append_of_le_length (by simp; omega), List.append_assoc, List.take_of_length_le (by simp; omega)]
  · rw [List.length_append, List.length_append, List.length_take, List.length_drop, lC]; omega
set_option maxRecDepth 100000 in
set_option maxHeartbeats 4000000 in
theorem Insert_mid {B : Nat} {w : World} {v : Value} {L : List (Int × Int × ByteArray)} (i : Nat) (x y : Int) (s : ByteArray) (p : Nat) (hi0 : i < L.length) (h : OwnT w B v L) (hB : B ≤ w.heap.size) (hp : w.heap[p]? = some (.cells #[.int .i64 x, .int .i64 y, .string s] 55 (0, 0))) (hpn : v.ownBlock ≠ some p) (h9 : L.length ≤ 1024) :
    Calls Try.prog 28 #[v, .int .i64 (i : Nat), .slice (some ⟨p, 0, none⟩) 1 1] w fun e w' => (∃ r, e = .returned r ∧ OwnT w' B r (put L i (x, y, s))) ∧ w.grownBy w' v.ownBlock := by
  obtain ⟨i0, hi, hz0, hz1, hz2⟩ := info_parts infoT
  have N : Hid (∀ (j : Nat) (u : Value), [Value.int .i64 x, .int .i64 y, .string s][j]? = some u → w.cell? ((⟨p, 0, none⟩ : Addr).add j) = some u) := Lib.hid (World.news_of_block hp)
  have one : Hid (∀ u ∈ [Value.int .i64 x, .int .i64 y, .string s], u.oneCell' = true) := Lib.hid (by simp; exact ⟨rfl, rfl, rfl⟩)
  obtain ⟨n, hn⟩ : ∃ n, n = L.length := ⟨_, rfl⟩
  rw [← hn] at hi0 h9
  obtain ⟨hl, hv⟩ := h
  rcases hv with ⟨rfl, h0⟩ | ⟨g, c, cur, rfl, hBg, hg, hc1, hc2, hcs, htk⟩
  · omega
  have hw1 : IntKind.i64.wrap ((i : Int) + 1) = (i : Int) + 1 := IntWalk.i64_in _ (by omega)
  have hne : ¬ ((i : Int) = n) := by omega
  rw [← hn] at hc1 htk ⊢
  replace hn := Lib.hid hn
  have hLn : (cellsT L).length = n * 3 := by rw [hl, hn.out]
  have hcell : ∀ j u, (cellsT L)[j]? = some u → w.cell? ⟨g, j, none⟩ = some u := fun j u hu => by
    have hj : j < n * 3 := by rw [← hLn]; exact (List.getElem?_eq_some_iff.1 hu).1
    rw [cell_of_row w g j _ _ _ hg, ← hu, ← htk, List.getElem?_take, if_pos hj]
    simp
  have hsz : (Try.prog.info? 55).map (·.size) = some 3 := by rw [hi]; simp [hz1]
  have hgw : g < w.heap.size := (Array.getElem?_eq_some_iff.1 hg).1
  have hpw : p < w.heap.size := (Array.getElem?_eq_some_iff.1 hp).1
  have hgp : g ≠ p := fun e => hpn (by rw [e]; rfl)
  have h1c : ∀ u ∈ (cellsT L).drop (i * 3), u.oneCell' = true := fun u hu => cellsT_one_cell L u (List.mem_of_mem_drop hu)
  have hLd : ((cellsT L).drop (i * 3)).length = (n - i) * 3 := by rw [List.length_drop, hLn]; omega
  by_cases hcn : c = n
  · replace hcn := hcn.symm
    subst hcn
    have hz3 : (n : Int) < (n : Int) + 1 := by omega
    have hci : ¬ (n = i) := by omega
    have hold : (Builtin.firstCells i0.size i (.slice (some ⟨g, 0, none⟩) i n)).run Try.prog w.drew = .ok ((cellsT L).take (i * 3)).toArray w.drew := by
      rw [hz1]
      exact run_firstCells_some w.drew 3 i ⟨g, 0, none⟩ i n ((cellsT L).take (i * 3)) (by rw [List.length_take]; omega) (fun j v hj => by
        rw [Addr.add_lit, Nat.zero_add]
        rw [List.getElem?_take] at hj
        split at hj
        · exact hcell j v hj
        · cases hj)
    have hkk : (n : Int) + 1 - (i : Int) = ((n + 1 - i : Nat) : Int) := by omega
    have hik : i + (n + 1 - i) = n + 1 := by omega
    have hrz : ∀ ty, (Builtin.append_ #[27, 3] ty #[.slice (some ⟨g, 0, none⟩) i n, .int .i64 ((n : Int) + 1 - (i : Int))]).run Try.prog w =
        .ok (.slice (some ⟨w.heap.size, 0, none⟩) (n + 1) (grownCap w (n + 1) n 55)) (w.drew.alloc (.cells (((cellsT L).take (i * 3)).toArray ++ Builtin.zeroCells (Value.agg #[.int .i64 0, .int .i64 0, .string ⟨#[]⟩]).cells (n + 1 - i) ++ Builtin.zeroCells (Value.agg #[.int .i64 0, .int .i64 0, .string ⟨#[]⟩]).cells (grownCap w (n + 1) n 55 - (n + 1))) 55)) := fun ty => by
      have h := Lib.run_append_grow_zeros w 27 3 ty 55 i0 _ .i64 .i64 Try.underlying27 Try.underlying3 hi hz0 (some ⟨g, 0, none⟩) i n ((cellsT L).take (i * 3)) hold (n + 1 - i) (by omega) (by omega) (by omega) (by omega) (by rw [hz2]; omega) (by rw [hz2, hik]; exact growslice_fits (by omega) (by omega))
      rw [hik] at h
      rw [hkk]
      exact h
    obtain ⟨G, hG⟩ : ∃ G, G = grownCap w (n + 1) n 55 := ⟨_, rfl⟩
    obtain ⟨ROW, hROW⟩ : ∃ ROW : Array Value, ROW = ((cellsT L).take (i * 3)).toArray ++ Builtin.zeroCells (Value.agg #[.int .i64 0, .int .i64 0, .string ⟨#[]⟩]).cells (n + 1 - i) ++ Builtin.zeroCells (Value.agg #[.int .i64 0, .int .i64 0, .string ⟨#[]⟩]).cells (G - (n + 1)) := ⟨_, rfl⟩
    rw [← hG] at hrz
    rw [← hROW] at hrz
    have hGn : n + 1 ≤ G := by rw [hG]; exact grownCap_ge w _ _ _
    have hGm : G ≤ maxLen := by rw [hG]; exact grownCap_le_maxLen w (n + 1) n 55 (by unfold maxLen; omega)
    have hG63 : G ≤ 9223372036854775807 := by unfold maxLen at hGm; omega
    have hGi : ¬ (G = i) := by omega
    have hGim : ¬ (G = i + 1) := by omega
    have hRl : ROW.size = G * 3 := by
      rw [hROW]
      simp only [Array.size_append, size_zeroCells, List.size_toArray, List.length_take, hLn]
      simp only [Value.cells, List.size_toArray, List.length_cons, List.length_nil]
      omega
    have hRt : ROW.toList.take (i * 3) = (cellsT L).take (i * 3) := by
      rw [hROW, Array.toList_append, Array.toList_append, List.append_assoc, List.toList_toArray, List.take_append_of_le_length (by simp; omega), List.take_take, Nat.min_self]
    obtain ⟨W1, hW1⟩ : ∃ W1, W1 = w.drew.alloc (.cells ROW 55) := ⟨_, rfl⟩
    rw [← hW1] at hrz
    have Z1 := Lib.hid (show W1.heap[w.heap.size]? = some (.cells ROW 55 (0, 0)) by rw [hW1]; exact heap_alloc_new w.drew _)
    have Y1 := Lib.hid (show Below w.heap.size w W1 by rw [hW1]; exact ((Below.refl _ _).drew).alloc (Nat.le_refl _) _)
    replace hW1 := Lib.hid hW1
    replace hG := Lib.hid hG
    replace hROW := Lib.hid hROW
    clear hkk hik hold
    go_enter Try.func28, Try.ntmps28
    have N1 : Hid (∀ (j : Nat) (u : Value), [Value.int .i64 x, .int .i64 y, .string s][j]? = some u → W1.cell? ((⟨p, 0, none⟩ : Addr).add j) = some u) := Lib.hid fun j u hu => by
      have h2 := N.out j u hu
      rw [Addr.add_lit] at h2 ⊢
      exact (Y1.out.cell (p := ⟨p, _, none⟩) hpw).trans h2
    have C1 : Hid (∀ j u, (cellsT L)[j]? = some u → W1.cell? ⟨g, j, none⟩ = some u) := Lib.hid fun j u hu => (Y1.out.cell (p := ⟨g, _, none⟩) hgw).trans (hcell j u hu)
    have R1 := Lib.hid (rows_grow (X := cellsT L) (Y := [Value.int .i64 x, .int .i64 y, .string s]) (R := ROW.toList) (a := i * 3) n G (by simpa using hRl) hLn.symm hGn (by omega) rfl hRt)
    have mn1 : [Value.int .i64 x, .int .i64 y, .string s].length = Nat.min 1 (n + 1 - i) * 3 := by rw [show Nat.min 1 (n + 1 - i) = 1 from Nat.min_eq_left (by omega)]; rfl
    have mn2 : ((cellsT L).drop (i * 3)).length = Nat.min (n - i) (n - i) * 3 := by rw [hLd, show Nat.min (n - i) (n - i) = n - i from Nat.min_eq_left (by omega)]
    have fit1 : i * 3 + [Value.int .i64 x, .int .i64 y, .string s].length ≤ ROW.size := by simp; omega
    obtain ⟨XD, hXD⟩ : ∃ XD, XD = (cellsT L).drop (i * 3) := ⟨_, rfl⟩
    have hsrc2 : Hid (∀ (W : World), (∀ j u, (cellsT L)[j]? = some u → W.cell? ⟨g, j, none⟩ = some u) → ∀ j u, XD[j]? = some u → W.cell? ((⟨g, i * 3, none⟩ : Addr).add j) = some u) := Lib.hid fun W hW j u hu => by
      rw [Addr.add_lit]
      rw [hXD, List.getElem?_drop] at hu
      exact hW _ _ hu
    rw [← hXD] at mn2 h1c hLd R1
    replace hXD := Lib.hid hXD
    replace hcell := Lib.hid hcell
    replace hRt := Lib.hid hRt
    clear htk N
    go_wp2_with (first
      | (at_builtin; refine Lib.wpList_append_run _ rfl (.tmp 34) (.tmp 39) 27 3 rfl (.slice (some ⟨g, 0, none⟩) i n) (.int .i64 ((n : Int) + 1 - (i : Int))) rfl rfl _ _ (hrz _) ?_)
      | (with_reducible refine at_copy ?_; refine wpList_copyK rfl (.tmp 43) (.tmp 44) 27 27 rfl 55 3 Try.underlying27 hsz w.heap.size (i * 3) (n + 1 - i) (G - i) ⟨p, 0, none⟩ 1 1 rfl rfl ROW 55 Z1.out [Value.int .i64 x, .int .i64 y, .string s] mn1 N1.out fit1 one.out ?_; intro w2 Z2 Y2))
    clear hrz
    have C2 := Lib.hid fun j u (hu : (cellsT L)[j]? = some u) => (Y2.out.cell (C1.out j u hu) (by simp; omega))
    have S2 := Lib.hid (hsrc2.out w2 C2.out)
    have GG := Lib.hid (grown_new (r := some g) (grown_of_below Y1.out) Y2.out (Nat.le_refl _))
    have fit2 : (i + 1) * 3 + XD.length ≤ (ROW.toList.take (i * 3) ++ [Value.int .i64 x, .int .i64 y, .string s] ++ ROW.toList.drop (i * 3 + [Value.int .i64 x, .int .i64 y, .string s].length)).toArray.size := by simp; omega
    obtain ⟨R2, hR2⟩ : ∃ R2, R2 = (ROW.toList.take (i * 3) ++ [Value.int .i64 x, .int .i64 y, .string s] ++ ROW.toList.drop (i * 3 + [Value.int .i64 x, .int .i64 y, .string s].length)).toArray := ⟨_, rfl⟩
    rw [← hR2] at Z2 fit2
    replace hR2 := Lib.hid hR2
    have hi1 : (0 : Int) ≤ (i : Int) + 1 := by omega
    have hin : i ≤ n := by omega
    go_region_law (refine step_copyK rfl (.tmp 50) (.tmp 53) 27 27 rfl 55 3 Try.underlying27 hsz w.heap.size ((i + 1) * 3) (n - i) (G - (i + 1)) ⟨g, i * 3, none⟩ (n - i) (n - i) (by simp [Act.eval, Act.put]) (by simp [Act.eval, Act.put]) R2 55 Z2.out XD mn2 S2.out fit2 h1c ?_; intro w3 Z3 Y3)
    have e3 : (i + 1) * 3 = i * 3 + 3 := by omega
    have eX : XD.length = (cellsT L).length - i * 3 := by rw [hLd, hLn]; omega
    have eR : R2.toList = ROW.toList.take (i * 3) ++ [Value.int .i64 x, .int .i64 y, .string s] ++ ROW.toList.drop (i * 3 + 3) := by rw [hR2.out]; simp
    have K1 := Lib.hid R1.out.1
    have K2 := Lib.hid R1.out.2
    rw [← eR, ← eX, ← e3] at K1 K2
    have GE := Lib.hid (grown_new GG.out (w2 := w3) ⟨Y3.out.os, Y3.out.tape, Y3.out.output, Y3.out.size, Y3.out.block⟩ (Nat.le_refl _))
    have OE := Lib.hid (own_of_row (L := put L i (x, y, s)) (n := n + 1) (by rw [put_length _ _ _ (by have := hn.out; omega), hn.out]) hB Z3.out hGn hGm (by rw [List.size_toArray]; exact K2.out) (by rw [cellsT_put, ← hXD.out]; exact K1.out))
    clear K1 K2 eR eX e3 R1 Z3 Y3
    go_wp2
    go_ret
    exact ⟨⟨_, rfl, OE.out⟩, GE.out⟩
  · have hz3 : ¬ ((c : Int) < (n : Int) + 1) := by omega
    unfold maxLen at hc2
    have hcm : c ≤ maxLen := by unfold maxLen; omega
    have hc63 : c ≤ 9223372036854775807 := by omega
    have hb1 : (0 : Int) ≤ (i : Int) + 1 := by omega
    have hin : i ≤ n := by omega
    have hb2 : ¬ (c = i + 1) := by omega
    have hb4 : ¬ (c = i) := by omega
    have hb5 : (i : Int) ≤ (n : Int) + 1 := by omega
    have hsa : w.shape? p = some (55, 3) := by simp [World.shape?, hp]
    have hsb : w.shape? g = some (55, cur.size) := by simp [World.shape?, hg]
    have hov : ∀ lb cb, (callFunc 31 #[.slice (some ⟨p, 0, none⟩) 1 1, .slice (some ⟨g, (i + 1) * 3, none⟩) lb cb]).run Try.prog w = .ok (.value (.bool false)) w := fun lb cb => by
      rw [run_callFunc_extern Try.func31 (by kernel_rfl) (by kernel_rfl) (by kernel_rfl) (e := Extern.SlicesOverlaps.overlaps #[27, 27] #[4]) (by kernel_rfl),
        Lib.run_overlaps_apart w 27 4 55 Try.underlying27 3 Try.sizeOf55 ⟨p, 0, none⟩ ⟨g, (i + 1) * 3, none⟩ 1 1 lb cb (fun e => hgp e.symm) _ _ _ _ hsa hsb (by omega) (by simp [World.frozen?, hp]) (by simp [World.frozen?, hp])]
      rfl
    go_enter Try.func28, Try.ntmps28
    go_wp2_with (simp only [hov])
    obtain ⟨XD, hXD⟩ : ∃ XD, XD = (cellsT L).drop (i * 3) := ⟨_, rfl⟩
    rw [← hXD] at h1c hLd
    have mn1 : [Value.int .i64 x, .int .i64 y, .string s].length = Nat.min 1 (n + 1 - i) * 3 := by rw [show Nat.min 1 (n + 1 - i) = 1 from Nat.min_eq_left (by omega)]; rfl
    have mn2 : XD.length = Nat.min (n + 1 - i) (n - i) * 3 := by rw [hLd, show Nat.min (n + 1 - i) (n - i) = n - i from Nat.min_eq_right (by omega)]
    have S1 : Hid (∀ j u, XD[j]? = some u → w.cell? ((⟨g, i * 3, none⟩ : Addr).add j) = some u) := Lib.hid fun j u hu => by
      rw [Addr.add_lit]
      rw [hXD, List.getElem?_drop] at hu
      exact hcell _ _ hu
    have fit1 : (i + 1) * 3 + XD.length ≤ cur.size := by omega
    have e3 : (i + 1) * 3 = i * 3 + 3 := by omega
    have eX : XD.length = (cellsT L).length - i * 3 := by rw [hLd, hLn]; omega
    have RS := Lib.hid fun C hC => rows_shift (X := cellsT L) (Y := [Value.int .i64 x, .int .i64 y, .string s]) (R := cur.toList) (a := i * 3) n c (by simpa using hcs) hLn.symm (by omega) (by omega) rfl htk C hC
    rw [← hXD, ← eX, ← e3] at RS
    replace htk := Lib.hid htk
    replace hcell := Lib.hid hcell
    replace hXD := Lib.hid hXD
    clear hov
    go_region_law (refine step_copyK rfl (.tmp 73) (.tmp 76) 27 27 rfl 55 3 Try.underlying27 hsz g ((i + 1) * 3) (n - i) (c - (i + 1)) ⟨g, i * 3, none⟩ (n + 1 - i) (c - i) (by simp [Act.eval, Act.put]) (by simp [Act.eval, Act.put]) cur 55 hg XD mn2 S1.out fit1 h1c ?_; intro w3 Z3 Y3)
    obtain ⟨C, hC⟩ : ∃ C, C = cur.toList.take ((i + 1) * 3) ++ XD ++ cur.toList.drop ((i + 1) * 3 + XD.length) := ⟨_, rfl⟩
    rw [← hC] at Z3
    obtain ⟨K1, K2, K3⟩ := RS.out C hC
    replace K1 := Lib.hid K1
    replace hC := Lib.hid hC
    have fit2 : i * 3 + [Value.int .i64 x, .int .i64 y, .string s].length ≤ C.toArray.size := by simp; omega
    have Y3' : Hid (w.grownBy w3 (some g)) := Lib.hid ⟨Y3.out.os, Y3.out.tape, Y3.out.output, Y3.out.size, Y3.out.block⟩
    have N3 : Hid (∀ (j : Nat) (u : Value), [Value.int .i64 x, .int .i64 y, .string s][j]? = some u → w3.cell? ((⟨p, 0, none⟩ : Addr).add j) = some u) := Lib.hid fun j u hu => by
      have h2 := N.out j u hu
      rw [Addr.add_lit] at h2 ⊢
      exact Y3'.out.cell h2 (by simp; omega)
    clear Y3 K2 K3
    go_wp2_with (with_reducible refine at_copy ?_; refine wpList_copyK rfl (.tmp 80) (.tmp 81) 27 27 rfl 55 3 Try.underlying27 hsz g (i * 3) (n + 1 - i) (c - i) ⟨p, 0, none⟩ 1 1 rfl rfl C.toArray 55 Z3.out [Value.int .i64 x, .int .i64 y, .string s] mn1 N3.out fit2 one.out ?_; intro w4 Z4 Y4)
    have GE := Lib.hid (Y3'.out.trans Y4.out)
    have K := RS.out C hC.out
    rw [e3] at K
    have OE := Lib.hid (own_of_row (L := put L i (x, y, s)) (n := n + 1) (by rw [put_length _ _ _ (by have := hn.out; omega), hn.out]) hBg Z4.out (by omega) hcm (by rw [List.size_toArray]; exact K.2.1) (by rw [cellsT_put, ← hXD.out]; exact K.1))
    go_ret
    exact ⟨⟨_, rfl, OE.out⟩, GE.out⟩
end Lnk
end Go.Proofs.Ytjgbidnijfecoaa
