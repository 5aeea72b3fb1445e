/- detector.scan, from the beginning. -/
import Derived.Test.YtbmcmiggifknfaaDoorDetB
import Derived.Test.YtbmcmiggifknfaaDoorTri
import Derived.Test.YtbmcmiggifknfaaDoorRows
import Derived.ProofKit
import Derived.Laws.Tables
import Derived.Laws.Rows
import Derived.Laws.ResultCell
import Derived.Deep.DeepCutAuto
set_option linter.unusedVariables false
set_option linter.unusedSimpArgs false
namespace Go.Proofs.YtbmcmiggifknfaaDoor
open Go.RowKit Wi Dice
namespace Det
theorem c4 {w : World} {g : Nat} {a b c d : Value} {t : TypeId} (h : w.heap[g]? = some (.cells #[a, b, c, d] t (0, 0))) : w.cell? ⟨g, 0, none⟩ = some a ∧ w.cell? ⟨g, 1, none⟩ = some b ∧ w.cell? ⟨g, 2, none⟩ = some c ∧ w.cell? ⟨g, 3, none⟩ = some d :=
  ⟨cell_of_row w g 0 _ _ _ h, cell_of_row w g 1 _ _ _ h, cell_of_row w g 2 _ _ _ h, cell_of_row w g 3 _ _ _ h⟩
theorem c3 {w : World} {g : Nat} {a b c : Value} {t : TypeId} (h : w.heap[g]? = some (.cells #[a, b, c] t (0, 0))) : w.cell? ⟨g, 0, none⟩ = some a ∧ w.cell? ⟨g, 1, none⟩ = some b ∧ w.cell? ⟨g, 2, none⟩ = some c :=
  ⟨cell_of_row w g 0 _ _ _ h, cell_of_row w g 1 _ _ _ h, cell_of_row w g 2 _ _ _ h⟩
theorem f3 {w : World} {g : Nat} {a b c : Value} {t : TypeId} (h : w.heap[g]? = some (.cells #[a, b, c] t (0, 0))) : w.frozen? ⟨g, 0, none⟩ = false ∧ w.frozen? ⟨g, 1, none⟩ = false ∧ w.frozen? ⟨g, 2, none⟩ = false :=
  ⟨frozen_of_row w g 0 _ _ h, frozen_of_row w g 1 _ _ h, frozen_of_row w g 2 _ _ h⟩
theorem st3 {w : World} {g : Nat} {x y z : Value} {t : TypeId} (h : w.heap[g]? = some (.cells #[x, y, z] t (0, 0))) (u v s : Value) :
    (((w.setCell ⟨g, 0, none⟩ u).setCell ⟨g, 1, none⟩ v).setCell ⟨g, 2, none⟩ s).heap[g]? = some (.cells #[u, v, s] t (0, 0)) := by
  have k0 := (heap_setCell_same w g 0 _ _ u h).trans (show _ = some (.cells #[u, y, z] t (0, 0)) from rfl)
  have k1 := (heap_setCell_same (w.setCell ⟨g, 0, none⟩ u) g 1 _ _ v k0).trans (show _ = some (.cells #[u, v, z] t (0, 0)) from rfl)
  exact (heap_setCell_same ((w.setCell ⟨g, 0, none⟩ u).setCell ⟨g, 1, none⟩ v) g 2 _ _ s k1).trans rfl
theorem own_kept {w w' : World} {B sz : Nat} {e : TypeId} {v : Value} {n : Nat} {xs : List Value} (h : w.ownsRow B e sz v n xs) (hb : ∀ k, v.ownBlock = some k → w'.heap[k]? = w.heap[k]?) : w'.ownsRow B e sz v n xs := by
  refine ⟨h.1, h.2.imp id ?_⟩
  rintro ⟨g, cap, cur, rfl, h1, h2, h3⟩
  exact ⟨g, cap, cur, rfl, h1, (hb g rfl).trans h2, h3⟩
theorem own_mono {w : World} {B B' sz : Nat} {e : TypeId} {v : Value} {n : Nat} {xs : List Value} (h : w.ownsRow B e sz v n xs) (hB : B' ≤ B) : w.ownsRow B' e sz v n xs :=
  ⟨h.1, h.2.imp id fun ⟨g, cap, cur, h1, h2, h3⟩ => ⟨g, cap, cur, h1, by omega, h3⟩⟩
theorem own_letter {w : World} {B sz : Nat} {e : TypeId} {v : Value} {n : Nat} {xs : List Value} (h : w.ownsRow B e sz v n xs) : ∃ a m c, v = .slice a m c ∧ Hid (m = n) := by
  rcases h.2 with ⟨rfl, rfl⟩ | ⟨g, c, _, rfl, _⟩
  · exact ⟨none, 0, 0, rfl, Lib.hid rfl⟩
  · exact ⟨_, n, c, rfl, Lib.hid rfl⟩
/-- The package's closed trigger. -/
def Cl (w : World) : Prop := w.heap[0]? = some (.cells #[.int .i64 (-1), .int .i64 0, .int .i64 0] 32 (0, 0))
theorem hbk {w w' : World} {b : Nat} {o : Obj} (h : Below w.heap.size w w') (e : w.heap[b]? = some o) : w'.heap[b]? = some o :=
  (h.block b (Array.getElem?_eq_some_iff.1 e).1).trans e
/-- The row of a list of triggers. -/
def row (l : List Tr) : List Value := Tri.cells (l.map fun t => (t.on, t.off, t.pk))
theorem row_snoc (l : List Tr) (t : Tr) : row (l ++ [t]) = row l ++ [.int .i64 t.on, .int .i64 t.off, .int .i64 t.pk] := by
  unfold row
  rw [List.map_append, List.map_cons, List.map_nil, Tri.cells_snoc]
/-- Sums are small. -/
theorem psum_bd {V : Nat → Int} {n : Nat} (hV : ∀ j, j < n → 0 ≤ V j ∧ V j ≤ 1073741823) : ∀ k, k ≤ n → 0 ≤ psum V k ∧ psum V k ≤ k * 1073741823 := by
  intro k
  induction k with
  | zero => intro _; simp [psum]
  | succ k ih =>
    intro hk
    have := ih (by omega)
    have := hV k (by omega)
    simp only [psum]
    push_cast
    omega
theorem psum_mono {V : Nat → Int} {n : Nat} (hV : ∀ j, j < n → 0 ≤ V j ∧ V j ≤ 1073741823) (a : Nat) : ∀ d, a + d ≤ n → psum V a ≤ psum V (a + d) := by
  intro d
  induction d with
  | zero => intro _; exact Int.le_refl _
  | succ d ih =>
    intro hk
    have := ih (by omega)
    have := hV (a + d) (by omega)
    show psum V a ≤ psum V (a + d) + V (a + d)
    omega
theorem part_bd {V : Nat → Int} {n : Nat} (hV : ∀ j, j < n → 0 ≤ V j ∧ V j ≤ 1073741823) (hn : n ≤ 1000) (k S : Nat) (hk : k ≤ n) : 0 ≤ psum V k - psum V (k - S) ∧ psum V k - psum V (k - S) ≤ 1073741823000 := by
  have h1 := psum_bd hV k hk
  have h2 := psum_bd hV (k - S) (by omega)
  have h3 := psum_mono hV (k - S) (k - (k - S)) (by omega)
  rw [show k - S + (k - (k - S)) = k by omega] at h3
  omega
/-- The memory of scan's loop: O is the world at its call. -/
structure ScM (O wr : World) (S L : Nat) (ON OFF : Int) (on off pk : Int) (v : Value) (e : List Tr) : Prop where
  det : wr.heap[O.heap.size]? = some (.cells #[.int .i64 S, .int .i64 L, .int .i64 ON, .int .i64 OFF] 28 (0, 0))
  opn : wr.heap[O.heap.size + 1]? = some (.cells #[.int .i64 on, .int .i64 off, .int .i64 pk] 32 (0, 0))
  res : wr.heap[O.heap.size + 1 + 1]? = some (.cells #[.int .i64 0, .int .i64 0, .int .i64 0] 32 (0, 0))
  own : wr.ownsRow (O.heap.size + 1 + 1 + 1) 32 3 v e.length (row e)
  bel : Below O.heap.size O wr
  nil_ : e = [] → v = .slice none 0 0
theorem ScM.below {O wr w' : World} {S L : Nat} {ON OFF on off pk : Int} {v : Value} {e : List Tr} (M : ScM O wr S L ON OFF on off pk v e) (h : Below wr.heap.size wr w') : ScM O w' S L ON OFF on off pk v e :=
  ⟨hbk h M.det, hbk h M.opn, hbk h M.res, M.own.kept (Dice.grown_of_below (r := none) h) (by cases v.ownBlock <;> simp), Buf.then_ M.bel h, M.nil_⟩
/-- The open trigger is stored. -/
theorem ScM.open_ {O wr w' : World} {S L : Nat} {ON OFF on off pk on' off' pk' : Int} {v : Value} {e : List Tr} (M : ScM O wr S L ON OFF on off pk v e)
    (h : w'.heap[O.heap.size + 1]? = some (.cells #[.int .i64 on', .int .i64 off', .int .i64 pk'] 32 (0, 0))) (hb : Below O.heap.size O w') (ho : ∀ b, b ≠ O.heap.size + 1 → w'.heap[b]? = wr.heap[b]?) : ScM O w' S L ON OFF on' off' pk' v e :=
  ⟨(ho _ (by omega)).trans M.det, h, (ho _ (by omega)).trans M.res, own_kept M.own (fun k hk => ho k (by have := (M.own.lt k hk).1; omega)), hb, M.nil_⟩
/-- One of the call's own blocks is grown. -/
theorem ScM.append {O wr w2 w' : World} {S L : Nat} {ON OFF on off pk : Int} {v v' : Value} {e : List Tr} (t : Tr) (M : ScM O wr S L ON OFF on off pk v e) (h2 : Below wr.heap.size wr w2) (hg : w2.grownBy w' v.ownBlock)
    (h : w'.ownsRow (O.heap.size + 1 + 1 + 1) 32 3 v' (e.length + 1) (row e ++ [.int .i64 t.on, .int .i64 t.off, .int .i64 t.pk])) : ScM O w' S L ON OFF on off pk v' (e ++ [t]) := by
  have M2 := M.below h2
  have hne : ∀ b, b < O.heap.size + 1 + 1 + 1 → some b ≠ v.ownBlock := fun b hb e => by have := (M.own.lt b e.symm).1; omega
  have sz : ∀ {b : Nat} {o : Obj}, w2.heap[b]? = some o → b < w2.heap.size := fun e => (Array.getElem?_eq_some_iff.1 e).1
  have s0 := M2.bel.size
  exact ⟨(hg.block _ (sz M2.det) (hne _ (by omega))).trans M2.det, (hg.block _ (sz M2.opn) (hne _ (by omega))).trans M2.opn, (hg.block _ (sz M2.res) (hne _ (by omega))).trans M2.res,
    by rw [row_snoc, List.length_append]; exact h,
    M2.bel.grown hg s0 (fun b hb => by have := (M.own.lt b hb).1; omega), fun h => by simp at h⟩
theorem ScM.set3 {O wr : World} {S L : Nat} {ON OFF on off pk : Int} {v : Value} {e : List Tr} (M : ScM O wr S L ON OFF on off pk v e) (on' off' pk' : Int) :
    ScM O (((wr.setCell ⟨O.heap.size + 1, 0, none⟩ (.int .i64 on')).setCell ⟨O.heap.size + 1, 1, none⟩ (.int .i64 off')).setCell ⟨O.heap.size + 1, 2, none⟩ (.int .i64 pk')) S L ON OFF on' off' pk' v e :=
  M.open_ (st3 M.opn _ _ _) (((M.bel.setCell (p := ⟨O.heap.size + 1, 0, none⟩) (by show O.heap.size ≤ O.heap.size + 1; omega) _).setCell (p := ⟨O.heap.size + 1, 1, none⟩) (by show O.heap.size ≤ O.heap.size + 1; omega) _).setCell (p := ⟨O.heap.size + 1, 2, none⟩) (by show O.heap.size ≤ O.heap.size + 1; omega) _)
    (fun b hne => (Below.heap_setCell _ _ _ b hne).trans ((Below.heap_setCell _ _ _ b hne).trans (Below.heap_setCell _ _ _ b hne)))
theorem ScM.set1 {O wr : World} {S L : Nat} {ON OFF on off pk : Int} {v : Value} {e : List Tr} (M : ScM O wr S L ON OFF on off pk v e) (off' : Int) :
    ScM O (wr.setCell ⟨O.heap.size + 1, 1, none⟩ (.int .i64 off')) S L ON OFF on off' pk v e :=
  M.open_ ((heap_setCell_same wr (O.heap.size + 1) 1 _ _ (.int .i64 off') M.opn).trans rfl) (M.bel.setCell (p := ⟨O.heap.size + 1, 1, none⟩) (by show O.heap.size ≤ O.heap.size + 1; omega) _) (fun b hne => Below.heap_setCell _ _ _ b hne)
theorem ScM.set2 {O wr : World} {S L : Nat} {ON OFF on off pk : Int} {v : Value} {e : List Tr} (M : ScM O wr S L ON OFF on off pk v e) (pk' : Int) :
    ScM O (wr.setCell ⟨O.heap.size + 1, 2, none⟩ (.int .i64 pk')) S L ON OFF on off pk' v e :=
  M.open_ ((heap_setCell_same wr (O.heap.size + 1) 2 _ _ (.int .i64 pk') M.opn).trans rfl) (M.bel.setCell (p := ⟨O.heap.size + 1, 2, none⟩) (by show O.heap.size ≤ O.heap.size + 1; omega) _) (fun b hne => Below.heap_setCell _ _ _ b hne)
theorem scn_next {d : Dt} {V : Nat → Int} {k : Nat} {e : List Tr} {o : Tr} (h : scn d V k = (e, o)) : scn d V (k + 1) = step d V k e o := by
  show step d V k (scn d V k).1 (scn d V k).2 = _
  rw [h]
theorem step_wait (d : Dt) (V : Nat → Int) (k : Nat) (e : List Tr) (o : Tr) (h : k + 1 < d.L) : step d V k e o = (e, o) := by unfold step; rw [if_pos h]
theorem step_open (d : Dt) (V : Nat → Int) (k : Nat) (e : List Tr) (o : Tr) (h : ¬ k + 1 < d.L) (ho : o.on < 0) (hr : rch d.S d.L (win V d.S k) (win V d.L k) d.on = true) : step d V k e o = (e, ⟨k, -1, V k⟩) := by unfold step; rw [if_neg h, if_pos ho, if_pos hr]
theorem step_idle (d : Dt) (V : Nat → Int) (k : Nat) (e : List Tr) (o : Tr) (h : ¬ k + 1 < d.L) (ho : o.on < 0) (hr : rch d.S d.L (win V d.S k) (win V d.L k) d.on = false) : step d V k e o = (e, o) := by unfold step; rw [if_neg h, if_pos ho, if_neg (by rw [hr]; decide)]
theorem step_peak (d : Dt) (V : Nat → Int) (k : Nat) (e : List Tr) (o : Tr) (h : ¬ k + 1 < d.L) (ho : ¬ o.on < 0) (hr : rch d.S d.L (win V d.S k) (win V d.L k) d.off = true) : step d V k e o = (e, ⟨o.on, o.off, max o.pk (V k)⟩) := by unfold step; rw [if_neg h, if_neg ho, if_pos hr]
theorem step_end (d : Dt) (V : Nat → Int) (k : Nat) (e : List Tr) (o : Tr) (h : ¬ k + 1 < d.L) (ho : ¬ o.on < 0) (hr : rch d.S d.L (win V d.S k) (win V d.L k) d.off = false) : step d V k e o = (e ++ [⟨o.on, k, o.pk⟩], ⟨-1, 0, 0⟩) := by unfold step; rw [if_neg h, if_neg ho, if_neg (by rw [hr]; decide)]
theorem infoT : (Tryd.prog.info? 32).map (fun i => (i.zero, i.size, i.bytes)) = some (some (.agg #[.int .i64 0, .int .i64 0, .int .i64 0]), 3, 24) := by kernel_rfl
theorem tmp_row {P : Program} {fn : Func} {p u : Tmp} {ty : TypeId} (h : fn.results = #[.tmp u, .cell p ty]) (tmps : Array Value) (w : World) (g : Nat) (t : TypeId) (cs : Array Value) (fr : Nat × Nat) (d : TypeDesc)
    (hp : tmps.getD p undef = .pointer (some ⟨g, 0, none⟩)) (hg : w.heap[g]? = some (.cells cs t fr))
    (hu : P.underlying ty = some d) (hd : (match d with | .struct _ | .array _ _ => true | _ => false) = true) (hi : (P.info? ty).map (·.size) = some cs.size) :
    (results fn tmps).run P w = .ok (.tuple #[tmps.getD u undef, .agg cs]) w := by
  have hp' : tmps[p]?.getD undef = .pointer (some ⟨g, 0, none⟩) := by simpa using hp
  simp [results, h, hp', asAddr, run_loadVar_row w g t ty cs fr d hg hu hd hi]
/-- What scan returns. -/
def Scanned (B : Nat) (st : List Tr × Tr) (e : Ending) (w : World) : Prop :=
  ∃ v, e = .returned (.tuple #[v, .agg #[.int .i64 st.2.on, .int .i64 st.2.off, .int .i64 st.2.pk]]) ∧ w.ownsRow B 32 3 v st.1.length (row st.1) ∧ (st.1 = [] → v = .slice none 0 0)
set_option maxHeartbeats 8000000 in
set_option maxRecDepth 100000 in
theorem scan_any {w : World} {u : Value} {n S L : Nat} {V : Nat → Int} {ON OFF : Int} (hd : DG ⟨S, L, ON, OFF⟩) (hx : SV w u n V) (hn : n ≤ 1000) (hV : ∀ j, j < n → 0 ≤ V j ∧ V j ≤ 1073741823) (hcl : Cl w) :
    Calls Tryd.prog 28 #[.agg #[.int .i64 S, .int .i64 L, .int .i64 ON, .int .i64 OFF], u, .int .i64 0, .int .i64 0, .agg #[.int .i64 (-1), .int .i64 0, .int .i64 0]] w fun e w' => Scanned w.heap.size (scn ⟨S, L, ON, OFF⟩ V n) e w' ∧ Below w.heap.size w w' := by
  obtain ⟨i0, hi, hz0, hz1, hz2⟩ := info_parts infoT
  obtain ⟨s1, sl, ll9, f1, fo, o9⟩ := id hd
  simp only at s1 sl ll9 f1 fo o9
  have RA := Lib.hid fun (sh lo p : Int) (w' : World) (a0 : 0 ≤ sh ∧ sh ≤ 1099511627776) (b0 : 0 ≤ lo ∧ lo ≤ 1099511627776) (p0 : 1 ≤ p) (p9 : p ≤ 10000) => reaches_any hd sh lo p w' a0.1 a0.2 b0.1 b0.2 p0 p9
  have PB := Lib.hid fun (k Z : Nat) (hk : k ≤ n) => part_bd hV hn k Z hk
  have HV := Lib.hid hV
  have HC := Lib.hid hcl
  obtain ⟨a, c, rfl, h1, h2, h3⟩ := hx
  have H3 := Lib.hid h3
  clear h3 h2 hV hcl hd
  obtain ⟨w1, hw1⟩ : ∃ w1, w1 = w.alloc (.cells #[.int .i64 S, .int .i64 L, .int .i64 ON, .int .i64 OFF] 28) := ⟨_, rfl⟩
  have z1 : Hid (w1.heap.size = w.heap.size + 1) := Lib.hid (by rw [hw1]; simp)
  have b1 : Hid (Below w.heap.size w w1) := Lib.hid (by rw [hw1]; exact new_block _)
  have K1 := Lib.hid (show w1.heap[w.heap.size]? = some (.cells #[.int .i64 S, .int .i64 L, .int .i64 ON, .int .i64 OFF] 28 (0, 0)) by rw [hw1]; exact heap_alloc_new w _)
  obtain ⟨w2, hw2⟩ : ∃ w2, w2 = w1.alloc (.cells #[.int .i64 (-1), .int .i64 0, .int .i64 0] 32) := ⟨_, rfl⟩
  have z2 : Hid (w2.heap.size = w.heap.size + 1 + 1) := Lib.hid (by rw [hw2]; simp [z1.out])
  have b2 : Below w1.heap.size w1 w2 := by rw [hw2]; exact new_block _
  have K2 := Lib.hid (show w2.heap[w.heap.size + 1]? = some (.cells #[.int .i64 (-1), .int .i64 0, .int .i64 0] 32 (0, 0)) by rw [hw2, ← z1.out]; exact heap_alloc_new w1 _)
  obtain ⟨w3, hw3⟩ : ∃ w3, w3 = w2.alloc (.cells #[.int .i64 0, .int .i64 0, .int .i64 0] 32) := ⟨_, rfl⟩
  have b3 : Below w2.heap.size w2 w3 := by rw [hw3]; exact new_block _
  have K3 := Lib.hid (show w3.heap[w.heap.size + 1 + 1]? = some (.cells #[.int .i64 0, .int .i64 0, .int .i64 0] 32 (0, 0)) by rw [hw3, ← z2.out]; exact heap_alloc_new w2 _)
  have M0 : Hid (ScM w w3 S L ON OFF (-1) 0 0 (.slice none 0 0) []) := Lib.hid
    ⟨hbk b3 (hbk b2 K1.out), hbk b3 K2.out, K3.out, ⟨rfl, .inl ⟨rfl, rfl⟩⟩, Buf.then_ (Buf.then_ b1.out b2) b3, fun _ => rfl⟩
  go_enter Tryd.func28, Tryd.ntmps28
  go_upto_region 1 with fail
  rw [← hw1, ← hw2, ← hw3]
  clear hw1 hw2 hw3 z1 z2 b1 b2 b3 K1 K2 K3
  go_wp2_with fail
  go_loopw [12, 13, 14, 19] (fun v s l i wr => ∃ (k : Nat) (sh lo on off pk : Int) (e : List Tr), k ≤ n ∧ i = .int .i64 k ∧ s = .int .i64 sh ∧ l = .int .i64 lo ∧ Hid (sh = psum V k - psum V (k - S)) ∧ Hid (lo = psum V k - psum V (k - L)) ∧ Hid (scn ⟨S, L, ON, OFF⟩ V k = (e, ⟨on, off, pk⟩)) ∧ 0 ≤ pk ∧ pk ≤ 1073741823 ∧ e.length ≤ k ∧ Hid (ScM w wr S L ON OFF on off pk v e)) (fun _ _ _ i _ => n - (intOf i).toNat)
  case atStart => exact ⟨0, 0, 0, -1, 0, 0, [], by omega, rfl, rfl, rfl, Lib.hid (by simp), Lib.hid (by simp), Lib.hid rfl, by omega, by omega, by simp, M0⟩
  case round =>
    clear M0
    obtain ⟨k, sh, lo, on, off, pk, e, hk, rfl, rfl, rfl, hsh, hlo, hs, p0, p9, he, M⟩ := hrel
    by_cases hlt : k < n
    · obtain ⟨b, off0, rfl, hbl, hc⟩ := H3.out (by omega)
      have WC : Hid (Below wr.heap.size wr wr) := Lib.hid (Below.refl _ _)
      have CV := Lib.hid fun (j : Nat) (hj : j < n) => (M.out.bel.cell (p := ⟨b, off0 + j, none⟩) hbl).trans (hc j hj)
      have cx := CV.out k hlt
      obtain ⟨x0, x9⟩ := HV.out k hlt
      have bs := PB.out k S hk
      have bl := PB.out k L hk
      have bA := PB.out (k + 1) S (by omega)
      have bC := PB.out (k + 1) L (by omega)
      rw [← hsh.out] at bs
      rw [← hlo.out] at bl
      obtain ⟨A2, hA2⟩ : ∃ A2, A2 = psum V (k + 1) - psum V (k + 1 - S) := ⟨_, rfl⟩
      obtain ⟨C2, hC2⟩ : ∃ C2, C2 = psum V (k + 1) - psum V (k + 1 - L) := ⟨_, rfl⟩
      have HA2 := Lib.hid hA2
      have HC2 := Lib.hid hC2
      have wA : Hid (win V S k = A2) := Lib.hid hA2.symm
      have wC : Hid (win V L k = C2) := Lib.hid hC2.symm
      rw [← hA2] at bA
      rw [← hC2] at bC
      clear hA2 hC2
      have bA : 0 ≤ A2 ∧ A2 ≤ 1099511627776 := by omega
      have bC : 0 ≤ C2 ∧ C2 ≤ 1099511627776 := by omega
      have SA : k < S → sh + V k = A2 := fun h => by
        rw [HA2.out, hsh.out, show k + 1 - S = 0 by omega, show k - S = 0 by omega]
        simp only [psum]; omega
      have SB : ∀ j, k = j + S → sh + V k - V j = A2 := fun j h => by
        rw [HA2.out, hsh.out, show k + 1 - S = j + 1 by omega, show k - S = j by omega]
        simp only [psum]; omega
      have LA : k < L → lo + V k = C2 := fun h => by
        rw [HC2.out, hlo.out, show k + 1 - L = 0 by omega, show k - L = 0 by omega]
        simp only [psum]; omega
      have LB : ∀ j, k = j + L → lo + V k - V j = C2 := fun j h => by
        rw [HC2.out, hlo.out, show k + 1 - L = j + 1 by omega, show k - L = j by omega]
        simp only [psum]; omega
      obtain ⟨x, hx⟩ : ∃ x, x = V k := ⟨_, rfl⟩
      rw [← hx] at cx x0 x9 SA SB LA LB
      replace hx := Lib.hid hx.symm
      replace SA := Lib.hid SA
      replace SB := Lib.hid SB
      replace LA := Lib.hid LA
      replace LB := Lib.hid LB
      clear hc
      (obtain ⟨d0, d1, d2, d3⟩ := c4 M.out.det); (obtain ⟨y0, y1, y2⟩ := c3 M.out.opn); (obtain ⟨g0, g1, g2⟩ := f3 M.out.opn)
      by_cases cS : k < S
      · have hA := SA.out cS
        have hC := LA.out (by omega)
        have t1 : ¬ ((S : Int) ≤ k) := by omega
        have t2 : ¬ ((L : Int) ≤ k) := by omega
        go_upto_region 11 with fail
        replace hA := Lib.hid hA
        replace hC := Lib.hid hC
        clear cx
        have hkL : k + 1 < L := by omega
        have hq : decide ((k : Int) < (L : Int) - 1) = true := by simp; omega
        go_wp2_with fail
        go_roundw
        case rel => exact ⟨k + 1, A2, C2, on, off, pk, e, by omega, by go_num, rfl, rfl, HA2, HC2, Lib.hid ((scn_next hs.out).trans (step_wait _ _ _ _ _ hkL)), by omega, by omega, by omega, M⟩
        case measure => simp [intOf]; omega
      obtain ⟨j, hj⟩ : ∃ j : Nat, k = j + S := ⟨k - S, by omega⟩
      have hA := SB.out j hj
      have hjI : (k : Int) - S = (j : Int) := by omega
      have hjn : j < n := by omega
      have cj := CV.out j hjn
      obtain ⟨v0, v9⟩ := HV.out j hjn
      generalize V j = vj at hA cj v0 v9
      replace hj := Lib.hid hj
      have t1 : (S : Int) ≤ k := by omega
      by_cases cL : k < L
      · have hC := LA.out cL
        have t2 : ¬ ((L : Int) ≤ k) := by omega
        go_upto_region 11 with fail
        replace hA := Lib.hid hA
        replace hC := Lib.hid hC
        clear cx
        by_cases hkL : k + 1 < L
        · have hq : decide ((k : Int) < (L : Int) - 1) = true := by simp; omega
          go_wp2_with fail
          go_roundw
          case rel => exact ⟨k + 1, A2, C2, on, off, pk, e, by omega, by go_num, rfl, rfl, HA2, HC2, Lib.hid ((scn_next hs.out).trans (step_wait _ _ _ _ _ hkL)), by omega, by omega, by omega, M⟩
          case measure => simp [intOf]; omega
        have hq : ¬ ((k : Int) < (L : Int) - 1) := by omega
        by_cases ho : on < 0
        · have ho2 : ¬ 0 ≤ on := by omega
          have RK := Lib.hid (fun w5 => RA.out A2 C2 ON w5 bA bC (by omega) (by omega))
          cases hr : rch S L A2 C2 ON with
          | true =>
            rw [hr] at RK
            replace hr := Lib.hid hr
            go_wp2_with (go_at_call 37; with_reducible refine (RK.out _).mono ?_; rintro e w5 ⟨rfl, hc⟩; (replace M := Lib.hid (M.out.below hc)); (replace WC := Lib.hid (Buf.then_ WC.out hc)); (clear d0 d1 d2 d3 y0 y1 y2 g0 g1 g2); (obtain ⟨d0, d1, d2, d3⟩ := c4 M.out.det); (obtain ⟨y0, y1, y2⟩ := c3 M.out.opn); (obtain ⟨g0, g1, g2⟩ := f3 M.out.opn))
            go_roundw
            case rel => exact ⟨k + 1, A2, C2, k, -1, x, e, by omega, by go_num, rfl, rfl, HA2, HC2, Lib.hid ((scn_next hs.out).trans (by rw [← hx.out]; exact step_open _ _ _ _ _ hkL ho (by rw [wA.out, wC.out]; exact hr.out))), by omega, by omega, by omega, Lib.hid (M.out.set3 k (-1) x)⟩
            case measure => simp [intOf]; omega
          | false =>
            rw [hr] at RK
            replace hr := Lib.hid hr
            go_wp2_with (go_at_call 37; with_reducible refine (RK.out _).mono ?_; rintro e w5 ⟨rfl, hc⟩; (replace M := Lib.hid (M.out.below hc)); (replace WC := Lib.hid (Buf.then_ WC.out hc)); (clear d0 d1 d2 d3 y0 y1 y2 g0 g1 g2); (obtain ⟨d0, d1, d2, d3⟩ := c4 M.out.det); (obtain ⟨y0, y1, y2⟩ := c3 M.out.opn); (obtain ⟨g0, g1, g2⟩ := f3 M.out.opn))
            go_roundw
            case rel => exact ⟨k + 1, A2, C2, on, off, pk, e, by omega, by go_num, rfl, rfl, HA2, HC2, Lib.hid ((scn_next hs.out).trans (step_idle _ _ _ _ _ hkL ho (by rw [wA.out, wC.out]; exact hr.out))), by omega, by omega, by omega, M⟩
            case measure => simp [intOf]; omega
        · have ho2 : 0 ≤ on := by omega
          have RK := Lib.hid (fun w5 => RA.out A2 C2 OFF w5 bA bC (by omega) (by omega))
          cases hr : rch S L A2 C2 OFF with
          | true =>
            rw [hr] at RK
            replace hr := Lib.hid hr
            go_wp2_with (go_at_call 37; with_reducible refine (RK.out _).mono ?_; rintro e w5 ⟨rfl, hc⟩; (replace M := Lib.hid (M.out.below hc)); (replace WC := Lib.hid (Buf.then_ WC.out hc)); (clear d0 d1 d2 d3 y0 y1 y2 g0 g1 g2); (obtain ⟨d0, d1, d2, d3⟩ := c4 M.out.det); (obtain ⟨y0, y1, y2⟩ := c3 M.out.opn); (obtain ⟨g0, g1, g2⟩ := f3 M.out.opn))
            go_roundw
            case rel => exact ⟨k + 1, A2, C2, on, off, (max pk x), e, by omega, by go_num, rfl, rfl, HA2, HC2, Lib.hid ((scn_next hs.out).trans (by rw [← hx.out]; exact step_peak ⟨S, L, ON, OFF⟩ V k e ⟨on, off, pk⟩ hkL (by show ¬ on < 0; omega) (by rw [wA.out, wC.out]; exact hr.out))), by omega, by omega, by omega, Lib.hid (M.out.set2 (max pk x))⟩
            case measure => simp [intOf]; omega
          | false =>
            rw [hr] at RK
            replace hr := Lib.hid hr
            go_upto_region 16 with (go_at_call 37; with_reducible refine (RK.out _).mono ?_; rintro e w5 ⟨rfl, hc⟩; (replace M := Lib.hid (M.out.below hc)); (replace WC := Lib.hid (Buf.then_ WC.out hc)); (clear d0 d1 d2 d3 y0 y1 y2 g0 g1 g2); (obtain ⟨d0, d1, d2, d3⟩ := c4 M.out.det); (obtain ⟨y0, y1, y2⟩ := c3 M.out.opn); (obtain ⟨g0, g1, g2⟩ := f3 M.out.opn))
            replace M := Lib.hid (M.out.set1 k)
            clear d0 d1 d2 d3 y0 y1 y2 g0 g1 g2
            generalize w5.setCell ⟨w.heap.size + 1, 1, none⟩ (.int .i64 k) = w6 at *
            (obtain ⟨d0, d1, d2, d3⟩ := c4 M.out.det); (obtain ⟨y0, y1, y2⟩ := c3 M.out.opn); (obtain ⟨g0, g1, g2⟩ := f3 M.out.opn)
            have own := Lib.hid M.out.own
            have hsz : w.heap.size + 1 + 1 + 1 ≤ w6.heap.size := (Array.getElem?_eq_some_iff.1 M.out.res).1
            have m1 : Hid (e.length + 1 ≤ maxLen) := Lib.hid (by unfold maxLen; omega)
            have m2 : Hid ((e.length + 1) * 24 ≤ 140737488355328) := Lib.hid (by omega)
            go_upto_region 17 with (at_builtin; refine Tri.append3 rfl _ _ 38 rfl (w.heap.size + 1 + 1 + 1) 32 _ i0 _ 24 Tryd.underlying38 hi hz0 hz1 hz2 rfl rfl own.out hsz _ _ _ rfl rfl rfl rfl m1.out m2.out ?_; intro v' w7 hown' hg)
            replace M := Lib.hid (M.out.append ⟨on, k, pk⟩ (new_block _) hg hown')
            clear hown' hg own hsz d0 d1 d2 d3 y0 y1 y2 g0 g1 g2
            have CC := hbk M.out.bel HC.out
            obtain ⟨q0, q1, q2⟩ := c3 CC
            replace CC := Lib.hid CC
            (obtain ⟨d0, d1, d2, d3⟩ := c4 M.out.det); (obtain ⟨y0, y1, y2⟩ := c3 M.out.opn); (obtain ⟨g0, g1, g2⟩ := f3 M.out.opn)
            go_wp2_with fail
            go_roundw
            case rel => exact ⟨k + 1, A2, C2, -1, 0, 0, e ++ [⟨on, k, pk⟩], by omega, by go_num, rfl, rfl, HA2, HC2, Lib.hid ((scn_next hs.out).trans (step_end ⟨S, L, ON, OFF⟩ V k e ⟨on, off, pk⟩ hkL (by show ¬ on < 0; omega) (by rw [wA.out, wC.out]; exact hr.out))), by omega, by omega, by simp; omega, Lib.hid (M.out.set3 (-1) 0 0)⟩
            case measure => simp [intOf]; omega
      obtain ⟨m, hm⟩ : ∃ m : Nat, k = m + L := ⟨k - L, by omega⟩
      have hC := LB.out m hm
      have hmI : (k : Int) - L = (m : Int) := by omega
      have hmn : m < n := by omega
      have cm := CV.out m hmn
      obtain ⟨u0, u9⟩ := HV.out m hmn
      generalize V m = vm at hC cm u0 u9
      replace hm := Lib.hid hm
      have t2 : (L : Int) ≤ k := by omega
      go_upto_region 11 with fail
      replace hA := Lib.hid hA
      replace hC := Lib.hid hC
      clear cx
      have hkL : ¬ k + 1 < L := by omega
      have hq : ¬ ((k : Int) < (L : Int) - 1) := by omega
      by_cases ho : on < 0
      · have ho2 : ¬ 0 ≤ on := by omega
        have RK := Lib.hid (fun w5 => RA.out A2 C2 ON w5 bA bC (by omega) (by omega))
        cases hr : rch S L A2 C2 ON with
        | true =>
          rw [hr] at RK
          replace hr := Lib.hid hr
          go_wp2_with (go_at_call 37; with_reducible refine (RK.out _).mono ?_; rintro e w5 ⟨rfl, hc⟩; (replace M := Lib.hid (M.out.below hc)); (replace WC := Lib.hid (Buf.then_ WC.out hc)); (clear d0 d1 d2 d3 y0 y1 y2 g0 g1 g2); (obtain ⟨d0, d1, d2, d3⟩ := c4 M.out.det); (obtain ⟨y0, y1, y2⟩ := c3 M.out.opn); (obtain ⟨g0, g1, g2⟩ := f3 M.out.opn))
          go_roundw
          case rel => exact ⟨k + 1, A2, C2, k, -1, x, e, by omega, by go_num, rfl, rfl, HA2, HC2, Lib.hid ((scn_next hs.out).trans (by rw [← hx.out]; exact step_open _ _ _ _ _ hkL ho (by rw [wA.out, wC.out]; exact hr.out))), by omega, by omega, by omega, Lib.hid (M.out.set3 k (-1) x)⟩
          case measure => simp [intOf]; omega
        | false =>
          rw [hr] at RK
          replace hr := Lib.hid hr
          go_wp2_with (go_at_call 37; with_reducible refine (RK.out _).mono ?_; rintro e w5 ⟨rfl, hc⟩; (replace M := Lib.hid (M.out.below hc)); (replace WC := Lib.hid (Buf.then_ WC.out hc)); (clear d0 d1 d2 d3 y0 y1 y2 g0 g1 g2); (obtain ⟨d0, d1, d2, d3⟩ := c4 M.out.det); (obtain ⟨y0, y1, y2⟩ := c3 M.out.opn); (obtain ⟨g0, g1, g2⟩ := f3 M.out.opn))
          go_roundw
          case rel => exact ⟨k + 1, A2, C2, on, off, pk, e, by omega, by go_num, rfl, rfl, HA2, HC2, Lib.hid ((scn_next hs.out).trans (step_idle _ _ _ _ _ hkL ho (by rw [wA.out, wC.out]; exact hr.out))), by omega, by omega, by omega, M⟩
          case measure => simp [intOf]; omega
      · have ho2 : 0 ≤ on := by omega
        have RK := Lib.hid (fun w5 => RA.out A2 C2 OFF w5 bA bC (by omega) (by omega))
        cases hr : rch S L A2 C2 OFF with
        | true =>
          rw [hr] at RK
          replace hr := Lib.hid hr
          go_wp2_with (go_at_call 37; with_reducible refine (RK.out _).mono ?_; rintro e w5 ⟨rfl, hc⟩; (replace M := Lib.hid (M.out.below hc)); (replace WC := Lib.hid (Buf.then_ WC.out hc)); (clear d0 d1 d2 d3 y0 y1 y2 g0 g1 g2); (obtain ⟨d0, d1, d2, d3⟩ := c4 M.out.det); (obtain ⟨y0, y1, y2⟩ := c3 M.out.opn); (obtain ⟨g0, g1, g2⟩ := f3 M.out.opn))
          go_roundw
          case rel => exact ⟨k + 1, A2, C2, on, off, (max pk x), e, by omega, by go_num, rfl, rfl, HA2, HC2, Lib.hid ((scn_next hs.out).trans (by rw [← hx.out]; exact step_peak ⟨S, L, ON, OFF⟩ V k e ⟨on, off, pk⟩ hkL (by show ¬ on < 0; omega) (by rw [wA.out, wC.out]; exact hr.out))), by omega, by omega, by omega, Lib.hid (M.out.set2 (max pk x))⟩
          case measure => simp [intOf]; omega
        | false =>
          rw [hr] at RK
          replace hr := Lib.hid hr
          go_upto_region 16 with (go_at_call 37; with_reducible refine (RK.out _).mono ?_; rintro e w5 ⟨rfl, hc⟩; (replace M := Lib.hid (M.out.below hc)); (replace WC := Lib.hid (Buf.then_ WC.out hc)); (clear d0 d1 d2 d3 y0 y1 y2 g0 g1 g2); (obtain ⟨d0, d1, d2, d3⟩ := c4 M.out.det); (obtain ⟨y0, y1, y2⟩ := c3 M.out.opn); (obtain ⟨g0, g1, g2⟩ := f3 M.out.opn))
          replace M := Lib.hid (M.out.set1 k)
          clear d0 d1 d2 d3 y0 y1 y2 g0 g1 g2
          generalize w5.setCell ⟨w.heap.size + 1, 1, none⟩ (.int .i64 k) = w6 at *
          (obtain ⟨d0, d1, d2, d3⟩ := c4 M.out.det); (obtain ⟨y0, y1, y2⟩ := c3 M.out.opn); (obtain ⟨g0, g1, g2⟩ := f3 M.out.opn)
          have own := Lib.hid M.out.own
          have hsz : w.heap.size + 1 + 1 + 1 ≤ w6.heap.size := (Array.getElem?_eq_some_iff.1 M.out.res).1
          have m1 : Hid (e.length + 1 ≤ maxLen) := Lib.hid (by unfold maxLen; omega)
          have m2 : Hid ((e.length + 1) * 24 ≤ 140737488355328) := Lib.hid (by omega)
          go_upto_region 17 with (at_builtin; refine Tri.append3 rfl _ _ 38 rfl (w.heap.size + 1 + 1 + 1) 32 _ i0 _ 24 Tryd.underlying38 hi hz0 hz1 hz2 rfl rfl own.out hsz _ _ _ rfl rfl rfl rfl m1.out m2.out ?_; intro v' w7 hown' hg)
          replace M := Lib.hid (M.out.append ⟨on, k, pk⟩ (new_block _) hg hown')
          clear hown' hg own hsz d0 d1 d2 d3 y0 y1 y2 g0 g1 g2
          have CC := hbk M.out.bel HC.out
          obtain ⟨q0, q1, q2⟩ := c3 CC
          replace CC := Lib.hid CC
          (obtain ⟨d0, d1, d2, d3⟩ := c4 M.out.det); (obtain ⟨y0, y1, y2⟩ := c3 M.out.opn); (obtain ⟨g0, g1, g2⟩ := f3 M.out.opn)
          go_wp2_with fail
          go_roundw
          case rel => exact ⟨k + 1, A2, C2, -1, 0, 0, e ++ [⟨on, k, pk⟩], by omega, by go_num, rfl, rfl, HA2, HC2, Lib.hid ((scn_next hs.out).trans (step_end ⟨S, L, ON, OFF⟩ V k e ⟨on, off, pk⟩ hkL (by show ¬ on < 0; omega) (by rw [wA.out, wC.out]; exact hr.out))), by omega, by omega, by simp; omega, Lib.hid (M.out.set3 (-1) 0 0)⟩
          case measure => simp [intOf]; omega
    · obtain rfl : k = n := by omega
      obtain ⟨y0, y1, y2⟩ := c3 M.out.opn
      have g0 := (f3 M.out.res).1
      have r0 := (c3 M.out.res).1
      have h1s := fun u => (heap_setCell_same wr (w.heap.size + 1 + 1) 0 _ _ u M.out.res).trans (show _ = some (.cells #[u, .int .i64 0, .int .i64 0] 32 (0, 0)) from rfl)
      have r1 := fun u => (c3 (h1s u)).2.1
      have g1 := fun u => (f3 (h1s u)).2.1
      have h2s := fun u v => (heap_setCell_same (wr.setCell ⟨w.heap.size + 1 + 1, 0, none⟩ u) (w.heap.size + 1 + 1) 1 _ _ v (h1s u)).trans (show _ = some (.cells #[u, v, .int .i64 0] 32 (0, 0)) from rfl)
      have r2 := fun u v => (c3 (h2s u v)).2.2
      have g2 := fun u v => (f3 (h2s u v)).2.2
      have KZ := Lib.hid (st3 M.out.res (.int .i64 on) (.int .i64 off) (.int .i64 pk))
      have BZ := Lib.hid ((((M.out.bel.setCell (p := ⟨w.heap.size + 1 + 1, 0, none⟩) (by show w.heap.size ≤ w.heap.size + 1 + 1; omega) (.int .i64 on)).setCell (p := ⟨w.heap.size + 1 + 1, 1, none⟩) (by show w.heap.size ≤ w.heap.size + 1 + 1; omega) (.int .i64 off)).setCell (p := ⟨w.heap.size + 1 + 1, 2, none⟩) (by show w.heap.size ≤ w.heap.size + 1 + 1; omega) (.int .i64 pk)).drew)
      have OZ : Hid (((((wr.setCell ⟨w.heap.size + 1 + 1, 0, none⟩ (.int .i64 on)).setCell ⟨w.heap.size + 1 + 1, 1, none⟩ (.int .i64 off)).setCell ⟨w.heap.size + 1 + 1, 2, none⟩ (.int .i64 pk)).drew).ownsRow w.heap.size 32 3 u12 e.length (row e)) := Lib.hid (by
        refine own_mono (own_kept M.out.own fun b hb => ?_) (by omega)
        have hne : b ≠ w.heap.size + 1 + 1 := by have := (M.out.own.lt b hb).1; omega
        exact (Below.heap_setCell _ _ _ b hne).trans ((Below.heap_setCell _ _ _ b hne).trans (Below.heap_setCell _ _ _ b hne)))
      clear h1s h2s
      replace hs := Lib.hid hs.out
      go_wp2_with fail
      go_region
      go_wp2_with fail
      refine bodyPost_ret (tmp_row rfl _ _ (w.heap.size + 1 + 1) _ _ _ _ rfl KZ.out rfl (by rfl) rfl) rfl ⟨?_, BZ.out⟩
      rw [hs.out]
      exact ⟨_, rfl, OZ.out, M.out.nil_⟩
end Det
end Go.Proofs.YtbmcmiggifknfaaDoor
