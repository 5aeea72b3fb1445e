/- A slice of one-celled elements in a block of the call's own, also one that []byte(s) made: what append, index, store and string(b) do to it. -/
import Derived.Deep.Upon
import Derived.Laws.IdiomStrings
import Derived.WalkKit
import Derived.Below
import Derived.Deep.Draws
import Derived.Deep.QuietTactic
import Derived.BigQuiet
namespace Go.Proofs.YtldgihlhioeipaaGreat
open Go.RowKit
namespace Buf

/-- v is a slice of n elements, the cells xs, in a block from B on that may be written up to its capacity. -/
structure BB (B : Nat) (w : World) (g n cap : Nat) (xs : List Value) : Prop where
  base : B ≤ g
  lt : g < w.heap.size
  len : xs.length = n
  le : n ≤ cap
  max : cap ≤ maxLen
  cells : ∀ j, j < n → w.cell? ⟨g, j, none⟩ = xs[j]?
  there : ∀ j, j < cap → (w.cell? ⟨g, j, none⟩).isSome = true
  free : ∀ j, j < cap → w.frozen? ⟨g, j, none⟩ = false

def Own (B : Nat) (w : World) (v : Value) (xs : List Value) : Prop :=
  (v = .slice none 0 0 ∧ xs = []) ∨ ∃ g cap, v = .slice (some ⟨g, 0, none⟩) xs.length cap ∧ BB B w g xs.length cap xs

theorem BB.of_block {B : Nat} {w w' : World} {g n cap : Nat} {xs : List Value} (h : BB B w g n cap xs) (hg : w'.heap[g]? = w.heap[g]?) (hs : w.heap.size ≤ w'.heap.size) : BB B w' g n cap xs :=
  ⟨h.base, Nat.lt_of_lt_of_le h.lt hs, h.len, h.le, h.max,
   fun j hj => (World.cell?_of_block (a := ⟨g, j, none⟩) hg).trans (h.cells j hj),
   fun j hj => by rw [World.cell?_of_block (a := ⟨g, j, none⟩) hg]; exact h.there j hj,
   fun j hj => by rw [World.frozen?_of_block (a := ⟨g, j, none⟩) hg]; exact h.free j hj⟩

theorem Own.kept {B : Nat} {w w' : World} {v : Value} {xs : List Value} (h : Own B w v xs) (hb : ∀ k, k < w.heap.size → w'.heap[k]? = w.heap[k]?) (hs : w.heap.size ≤ w'.heap.size) : Own B w' v xs := by
  rcases h with h | ⟨g, cap, e, hb'⟩
  · exact .inl h
  · exact .inr ⟨g, cap, e, hb'.of_block (hb g hb'.lt) hs⟩
theorem Own.below {B : Nat} {w w' : World} {v : Value} {xs : List Value} (h : Own B w v xs) (hb : Below w.heap.size w w') : Own B w' v xs := h.kept hb.block hb.size
theorem Own.alloc {B : Nat} {w : World} {v : Value} {xs : List Value} (h : Own B w v xs) (o : Obj) : Own B (w.alloc o) v xs :=
  h.below ((Below.refl _ _).alloc (Nat.le_refl _) o)
theorem Own.drew {B : Nat} {w : World} {v : Value} {xs : List Value} (h : Own B w v xs) : Own B w.drew v xs := h.below (Below.refl _ _).drew
theorem Own.drewN {B : Nat} {w : World} {v : Value} {xs : List Value} (h : Own B w v xs) (n : Nat) : Own B (w.drewN n) v xs := h.kept (fun _ _ => rfl) (Nat.le_refl _)
theorem Own.mono {B B' : Nat} {w : World} {v : Value} {xs : List Value} (h : Own B w v xs) (hB : B' ≤ B) : Own B' w v xs := by
  rcases h with h | ⟨g, cap, e, hb⟩
  · exact .inl h
  · exact .inr ⟨g, cap, e, Nat.le_trans hB hb.base, hb.lt, hb.len, hb.le, hb.max, hb.cells, hb.there, hb.free⟩
theorem Own.nil (B : Nat) (w : World) : Own B w (.slice none 0 0) [] := .inl ⟨rfl, rfl⟩

theorem below_drewN {B : Nat} {a w : World} (h : Below B a w) (n : Nat) : Below B a (w.drewN n) := ⟨h.os, h.tape, h.output, h.size, h.block⟩

theorem of_drewN {w w1 : World} {n : Nat} (h : Below (w.drewN n).heap.size (w.drewN n) w1) : Below w.heap.size w w1 := ⟨h.os, h.tape, h.output, h.size, h.block⟩
theorem then_ {w w1 w2 : World} (h : Below w.heap.size w w1) (k : Below w1.heap.size w1 w2) : Below w.heap.size w w2 := h.trans (k.mono h.size)
/-- A callee that leaves what was there, in any world of the class. -/
theorem calm {P : Program} {f : FuncId} {args : Array Value} {W w : World} {v : Value} (hC : Below W.heap.size W w) (h : Calls P f args w fun e w' => e = .returned v ∧ Below w.heap.size w w') :
    Calls P f args w fun e w' => e = .returned v ∧ Below W.heap.size W w' := h.mono fun _ _ ⟨he, hb⟩ => ⟨he, then_ hC hb⟩
theorem calmN {P : Program} {f : FuncId} {args : Array Value} {W w : World} {v : Value} (hC : Below W.heap.size W w) (h : Calls P f args w fun e w' => e = .returned v ∧ ∃ m, w' = w.drewN m) :
    Calls P f args w fun e w' => e = .returned v ∧ Below W.heap.size W w' := h.mono fun _ _ ⟨he, m, hb⟩ => ⟨he, by rw [hb]; exact below_drewN hC m⟩
/-- A region that draws its order, whose callees leave what was there: one walk in the order of the text. -/
theorem region_calm {P : Program} (W : World) {id : Nat} {Q : Exit → Act → World → Prop} {a : Act} {w : World} {l : List Oper} (hm : P.follows .mixedOrders = true) (hB : Region.lexB .any l.toArray = true) (h0 : Below W.heap.size W w)
    (h : wpQuiet P l.toArray (fun w' => Below W.heap.size W w') (fun a' => ∀ w', Below W.heap.size W w' → Q .normal a' w') l a) : (Code.region id l.toArray true).wp P Q a w :=
  wp_region_quiet (C := fun w' => Below W.heap.size W w') hm hB h0.drew (by simpa using h)
theorem calmB {P : Program} {f : FuncId} {args : Array Value} {B : Nat} {W w : World} {v : Value} (hB : B ≤ W.heap.size) (hC : Below B W w) (h : Calls P f args w fun e w' => e = .returned v ∧ Below w.heap.size w w') :
    Calls P f args w fun e w' => e = .returned v ∧ Below B W w' := h.mono fun _ _ ⟨he, hb⟩ => ⟨he, hC.trans (hb.mono (Nat.le_trans hB hC.size))⟩
theorem calmBN {P : Program} {f : FuncId} {args : Array Value} {B : Nat} {W w : World} {v : Value} (hC : Below B W w) (h : Calls P f args w fun e w' => e = .returned v ∧ ∃ m, w' = w.drewN m) :
    Calls P f args w fun e w' => e = .returned v ∧ Below B W w' := h.mono fun _ _ ⟨he, m, hb⟩ => ⟨he, by rw [hb]; exact below_drewN hC m⟩
theorem region_calmB {P : Program} (B : Nat) (W : World) {id : Nat} {Q : Exit → Act → World → Prop} {a : Act} {w : World} {l : List Oper} (hm : P.follows .mixedOrders = true) (hB : Region.lexB .any l.toArray = true) (h0 : Below B W w)
    (h : wpQuiet P l.toArray (fun w' => Below B W w') (fun a' => ∀ w', Below B W w' → Q .normal a' w') l a) : (Code.region id l.toArray true).wp P Q a w :=
  wp_region_quiet (C := fun w' => Below B W w') hm hB h0.drew (by simpa using h)
/-- A slice of integers that came in. -/
def IsRow (k : IntKind) (w : World) (a : Option Addr) (len cap : Nat) (zs : List Int) : Prop :=
  (a = none ∧ len = 0 ∧ cap = 0 ∧ zs = []) ∨
  ∃ x, a = some x ∧ len ≤ cap ∧ cap ≤ maxLen ∧ zs.length = cap ∧ (∀ i, i < zs.length → w.cell? (x.add i) = some (.int k (zs.getD i 0))) ∧ ∀ n ∈ zs, (Lit.int k n).wf = true

/-- Behind []byte(s). -/
theorem own_of_string (w : World) (e : TypeId) (s : ByteArray) (hs : s.size ≤ maxLen) :
    Own w.heap.size (w.drew.alloc (.cells (bytesRow s (grownCap w s.size 0 e)) e ((bytesRow s (grownCap w s.size 0 e)).size, (bytesRow s (grownCap w s.size 0 e)).size + 1)))
      (.slice (some ⟨w.heap.size, 0, none⟩) s.size (grownCap w s.size 0 e)) (byteCells s) := by
  have hge := grownCap_ge w s.size 0 e
  have hle := grownCap_le_maxLen w s.size 0 e hs
  have hsz : (bytesRow s (grownCap w s.size 0 e)).size = grownCap w s.size 0 e := by
    have : s.data.size = s.size := rfl
    simp [bytesRow]; omega
  have hl := byteCells_length s
  refine .inr ⟨w.heap.size, grownCap w s.size 0 e, by rw [hl], Nat.le_refl _, by simp, rfl, by rw [hl]; exact hge, hle, ?_, ?_, ?_⟩
  · intro j hj
    rw [hl] at hj
    have h1 := World.cell?_alloc_mark w.drew (bytesRow s (grownCap w s.size 0 e)) e ((bytesRow s (grownCap w s.size 0 e)).size, (bytesRow s (grownCap w s.size 0 e)).size + 1) j
    have h2 := bytesRow_at s (grownCap w s.size 0 e) j hj
    rw [h2] at h1
    refine h1.trans ?_
    have hj' : j < s.data.toList.length := by simpa using hj
    simp [byteCells, List.getElem?_map, List.getElem?_eq_getElem hj']
  · intro j hj
    have h1 := World.cell?_alloc_mark w.drew (bytesRow s (grownCap w s.size 0 e)) e ((bytesRow s (grownCap w s.size 0 e)).size, (bytesRow s (grownCap w s.size 0 e)).size + 1) j
    have h3 : j < (bytesRow s (grownCap w s.size 0 e)).size := by omega
    rw [Array.getElem?_eq_getElem h3] at h1
    have : (w.drew.alloc (.cells (bytesRow s (grownCap w s.size 0 e)) e ((bytesRow s (grownCap w s.size 0 e)).size, (bytesRow s (grownCap w s.size 0 e)).size + 1))).cell? ⟨w.heap.size, j, none⟩ = some ((bytesRow s (grownCap w s.size 0 e))[j]) := h1
    rw [this]; rfl
  · intro j hj
    have h1 := World.frozen?_alloc_mark w.drew (bytesRow s (grownCap w s.size 0 e)) e (bytesRow s (grownCap w s.size 0 e)).size ((bytesRow s (grownCap w s.size 0 e)).size + 1) j
    refine h1.trans ?_
    have : ¬ (bytesRow s (grownCap w s.size 0 e)).size ≤ j := by omega
    simp [this]

theorem isSome_setCells (b : Nat) : ∀ (vs : List Value) (o : Nat) (w : World) (x : Addr), (w.cell? x).isSome = true → ((w.setCells b o vs).cell? x).isSome = true := by
  intro vs
  induction vs with
  | nil => intro o w x h; exact h
  | cons v vs ih =>
    intro o w x h
    refine ih (o + 1) (w.setCell ⟨b, o, none⟩ v) x ?_
    obtain ⟨u, hu⟩ := Option.isSome_iff_exists.1 h
    obtain ⟨v', hv'⟩ := cell?_setCell_some (w := w) (p := ⟨b, o, none⟩) (x := v) (q := x) (v := u) hu
    rw [hv']; rfl
theorem tape_setCells (b : Nat) : ∀ (vs : List Value) (o : Nat) (w : World), (w.setCells b o vs).tape = w.tape := by
  intro vs
  induction vs with
  | nil => intro o w; rfl
  | cons v vs ih => intro o w; exact ih _ _
theorem size_setCells (b : Nat) : ∀ (vs : List Value) (o : Nat) (w : World), (w.setCells b o vs).heap.size = w.heap.size := by
  intro vs
  induction vs with
  | nil => intro o w; rfl
  | cons v vs ih => intro o w; rw [show (w.setCells b o (v :: vs)) = ((w.setCell ⟨b, o, none⟩ v).setCells b (o + 1) vs) from rfl, ih]; simp

section
variable {P : Program}
/-- append: what is appended comes from any source of one-celled elements. -/
theorem run_append (t tx ty e : TypeId) (i : TypeInfo) (z : Value) (bytes : Nat) (ht : P.underlying t = some (.slice e)) (hi : P.info? e = some i) (hz : i.zero = some z) (hsize : i.size = 1) (hby : i.bytes = bytes) (hzs : z.cells.size = 1)
    {B : Nat} {w : World} {v : Value} {xs : List Value} (h : Own B w v xs) (hB : B ≤ w.heap.size) (x : Value) (n : Nat) (news : List Value) (hs : Src P 1 tx x n news w)
    (h63 : xs.length + n ≤ maxLen) (hbytes : (xs.length + n) * bytes ≤ 140737488355328) :
    ∃ v' w', (Builtin.append_ #[t, tx] ty #[v, x]).run P w = .ok v' w' ∧ Own B w' v' (xs ++ news) ∧ w.grownBy w' v.ownBlock := by
  have hnl : news.length = n := by have := hs.newsLen; omega
  have hsmall : xs.length + n ≤ 9223372036854775807 := by simp only [maxLen] at h63; omega
  have fresh : ∀ (old : Nat) (row : Option Nat), old < xs.length + n →
      Own B (w.drew.alloc (.cells ((xs ++ news).toArray ++ Builtin.zeroCells z.cells (grownCap w (xs.length + n) old e - (xs.length + n))) e)) (.slice (some ⟨w.heap.size, 0, none⟩) (xs.length + n) (grownCap w (xs.length + n) old e)) (xs ++ news) ∧
      w.grownBy (w.drew.alloc (.cells ((xs ++ news).toArray ++ Builtin.zeroCells z.cells (grownCap w (xs.length + n) old e - (xs.length + n))) e)) row := by
    intro old row ho
    have hge := grownCap_ge w (xs.length + n) old e
    have hcm : grownCap w (xs.length + n) old e ≤ maxLen := grownCap_le_maxLen w (xs.length + n) old e h63
    have hlen : (xs ++ news).length = xs.length + n := by rw [List.length_append, hnl]
    have hsz : ((xs ++ news).toArray ++ Builtin.zeroCells z.cells (grownCap w (xs.length + n) old e - (xs.length + n))).size = grownCap w (xs.length + n) old e := by
      simp only [Array.size_append, List.size_toArray, hlen, size_zeroCells, hzs]; omega
    have hc := World.cell?_alloc_mark w.drew ((xs ++ news).toArray ++ Builtin.zeroCells z.cells (grownCap w (xs.length + n) old e - (xs.length + n))) e (0, 0)
    have hf := World.frozen?_alloc_mark w.drew ((xs ++ news).toArray ++ Builtin.zeroCells z.cells (grownCap w (xs.length + n) old e - (xs.length + n))) e 0 0
    refine ⟨.inr ⟨w.heap.size, grownCap w (xs.length + n) old e, by rw [hlen], hB, by simp, rfl, by rw [hlen]; exact hge, hcm, ?_, ?_, ?_⟩, ⟨rfl, rfl, rfl, by simp, fun k hk _ => Below.heap_alloc w.drew _ k hk⟩⟩
    · intro j hj
      refine (hc j).trans ?_
      rw [Array.getElem?_append_left (by simpa using hj)]
      simp
    · intro j hj
      refine (congrArg Option.isSome (hc j)).trans ?_
      rw [Array.getElem?_eq_getElem (by omega)]; rfl
    · intro j _
      exact (hf j).trans (by simp)
  rcases h with ⟨rfl, rfl⟩ | ⟨g, cap, rfl, hb⟩
  · by_cases hm : n = 0
    · subst hm
      have hn : news = [] := List.eq_nil_of_length_eq_zero hnl
      subst hn
      exact ⟨_, w, run_append_nothing w t tx ty e i ht hi none 0 0 (Nat.le_refl _) x (hsize ▸ hs), .inl ⟨rfl, rfl⟩, ⟨rfl, rfl, rfl, Nat.le_refl _, fun _ _ _ => rfl⟩⟩
    · have hold : (Builtin.firstCells i.size 0 (.slice none 0 0)).run P w.drew = .ok (([] : List Value).toArray) w.drew := by
        simp [Builtin.firstCells]
      have hr := run_append_grow_src (P := P) (w := w) t tx ty e i z ht hi hz none 0 0 [] hold x n news (hsize ▸ hs) (by omega) (by simp only [List.length_nil, Nat.zero_add] at hsmall ⊢; omega) (by rw [hby]; exact growslice_fits (by omega) (by simpa using hbytes))
      have hgr := fresh 0 (Value.ownBlock (.slice none 0 0)) (by simp only [List.length_nil]; omega)
      simp only [List.length_nil] at hgr
      exact ⟨_, _, hr, hgr.1, hgr.2⟩
  · by_cases hroom : xs.length + n ≤ cap
    · have hr := run_append_room_src (P := P) (w := w) t tx ty e i ht hi g 0 xs.length cap x n news (hsize ▸ hs) hroom
        (fun j hj => by rw [hsize]; simp only [Nat.zero_add, Nat.mul_one]; exact hb.there _ (by omega)) (fun j hj => by rw [hsize]; simp only [Nat.zero_add, Nat.mul_one]; exact hb.free _ (by omega))
      simp only [hsize, Nat.zero_add, Nat.mul_one] at hr
      have hth : ∀ j, j < news.length → (w.cell? ⟨g, xs.length + j, none⟩).isSome = true := fun j hj => hb.there _ (by omega)
      refine ⟨_, _, hr, .inr ⟨g, cap, by rw [List.length_append, hnl], hb.base, by rw [size_setCells]; exact hb.lt, rfl, by rw [List.length_append, hnl]; exact hroom, hb.max, ?_, ?_, ?_⟩, ?_⟩
      · intro j hj
        rw [List.length_append] at hj
        by_cases h1 : j < xs.length
        · rw [World.cell?_setCells_out g news xs.length w ⟨g, j, none⟩ (fun _ _ => .inl h1), List.getElem?_append_left h1]
          exact hb.cells j h1
        · obtain ⟨k, rfl⟩ : ∃ k, j = xs.length + k := ⟨j - xs.length, by omega⟩
          rw [World.cell?_setCells_in g news xs.length w hth k (by omega), List.getElem?_append_right (by omega), Nat.add_sub_cancel_left, List.getElem?_eq_getElem (by omega)]
      · intro j hj
        exact isSome_setCells g news xs.length w ⟨g, j, none⟩ (hb.there j hj)
      · intro j hj
        rw [World.frozen?_setCells]; exact hb.free j hj
      · exact ⟨World.os_setCells _ _ _ _, tape_setCells _ _ _ _, World.output_setCells _ _ _ _, by rw [size_setCells]; exact Nat.le_refl _, fun k hk hne => World.heap_setCells_other _ _ _ _ hk (fun e => hne (by simp [Value.ownBlock, e]))⟩
    · have hold : (Builtin.firstCells i.size xs.length (.slice (some ⟨g, 0, none⟩) xs.length cap)).run P w.drew = .ok xs.toArray w.drew := by
        have := run_firstCells_some (P := P) w.drew i.size xs.length ⟨g, 0, none⟩ xs.length cap xs (by rw [hsize]; omega) (fun j u hj => by
          have hj' : j < xs.length := (List.getElem?_eq_some_iff.1 hj).1
          rw [Addr.add_lit, Nat.zero_add]
          exact (hb.cells j hj').trans hj)
        exact this
      have hr := run_append_grow_src (P := P) (w := w) t tx ty e i z ht hi hz (some ⟨g, 0, none⟩) xs.length cap xs hold x n news (hsize ▸ hs) (by omega) (by omega) (by rw [hby]; exact growslice_fits (by omega) hbytes)
      have hgr := fresh cap (Value.ownBlock (.slice (some ⟨g, 0, none⟩) xs.length cap)) (by omega)
      exact ⟨_, _, hr, hgr.1, hgr.2⟩

/-- append in a walk: 'intro v' w' hown' hg''. -/
theorem wpList_append {ops : Array Oper} {rest : List Oper} {o : Oper} {a : Act} {Q : Exit → Act → World → Prop} (hgd : o.guard = none) (s x : Operand) (t tx : TypeId)
    (ho : o.op = .call { callee := .builtin .append, args := #[s, x], argTypes := #[t, tx] })
    (e : TypeId) (i : TypeInfo) (z : Value) (bytes : Nat) (ht : P.underlying t = some (.slice e)) (hi : P.info? e = some i) (hz : i.zero = some z) (hsize : i.size = 1) (hby : i.bytes = bytes) (hzs : z.cells.size = 1)
    {B : Nat} {w : World} {v : Value} {xs : List Value} (hv : a.eval s = v) (h : Own B w v xs) (hB : B ≤ w.heap.size)
    (xv : Value) (n : Nat) (news : List Value) (hx : a.eval x = xv) (hs : Src P 1 tx xv n news w) (h63 : xs.length + n ≤ maxLen) (hbytes : (xs.length + n) * bytes ≤ 140737488355328)
    (hK : ∀ v' w', Own B w' v' (xs ++ news) → w.grownBy w' v.ownBlock → wpList P ops Q rest (a.put o.dst v') w') : wpList P ops Q (o :: rest) a w := by
  refine wpList_plain hgd fun K hK' => ?_
  obtain ⟨v', w', hrun, r1, r2⟩ := run_append (P := P) t tx o.type e i z bytes ht hi hz hsize hby hzs h hB xv n news hs h63 hbytes
  unfold Oper.wp
  simp [execOp, ho, resolve, invoke, builtin, hv, hx, hrun, Result.andThen]
  exact hK' _ _ (hK v' w' r1 r2)

/-- What an append leaves below the call's own blocks. -/
theorem below_grown {B : Nat} {w0 w w' : World} {v : Value} {xs : List Value} (hb : Below B w0 w) (h : Own B w v xs) (hB : B ≤ w.heap.size) (hg : w.grownBy w' v.ownBlock) : Below B w0 w' := by
  refine hb.grown hg hB fun k hk => ?_
  rcases h with ⟨rfl, _⟩ | ⟨g, cap, rfl, hbb⟩
  · cases hk
  · simp only [Value.ownBlock, Option.some.injEq] at hk
    rw [← hk]; exact hbb.base
/-- string(b). -/
theorem run_back {B : Nat} {w : World} {v : Value} (l : List UInt8) (src dst e : TypeId) (hs : P.underlying src = some (.slice e)) (he : P.underlying e = some (.int .u8)) (hd : P.underlying dst = some .string)
    (h : Own B w v (l.map fun b => Value.int .u8 b.toNat)) : (convert src dst v).run P w = .ok (.string ⟨l.toArray⟩) w := by
  rcases h with ⟨rfl, hx⟩ | ⟨g, cap, rfl, hb⟩
  · have : l = [] := by simpa using hx
    subst this
    exact run_convert_bytes_nil w src e hs he 0 0 dst hd
  · have hl : (l.map fun b => Value.int .u8 b.toNat).length = l.length := by simp
    rw [hl]
    refine run_convert_bytes_back w src dst e ⟨g, 0, none⟩ cap l hs he hd fun j hj => ?_
    rw [Addr.add_lit, Nat.zero_add]
    have := hb.cells j (by rw [hl]; exact hj)
    rw [this]
    simp [List.getElem?_map, List.getElem?_eq_getElem hj]

/-- append of one element, which lies in a new block of one cell: 'intro v' w' hown' hb''. -/
theorem wpList_append_one {ops : Array Oper} {rest : List Oper} {o : Oper} {a : Act} {Q : Exit → Act → World → Prop} (hgd : o.guard = none) (s x : Operand) (t : TypeId)
    (ho : o.op = .call { callee := .builtin .append, args := #[s, x], argTypes := #[t, t] })
    (e e1 : TypeId) (i : TypeInfo) (z : Value) (bytes : Nat) (ht : P.underlying t = some (.slice e)) (hi : P.info? e = some i) (hz : i.zero = some z) (hsize : i.size = 1) (hby : i.bytes = bytes) (hzs : z.cells.size = 1)
    {B : Nat} {W w : World} {v : Value} {xs : List Value} (hv : a.eval s = v) (h : Own B w v xs) (hb : Below B W w) (hB : B ≤ w.heap.size)
    (u : Value) (h1 : u.oneCell' = true) (hx : a.eval x = .slice (some ⟨w.heap.size, 0, none⟩) 1 1) (h63 : xs.length + 1 ≤ maxLen) (hbytes : (xs.length + 1) * bytes ≤ 140737488355328)
    (hK : ∀ v' w', Own B w' v' (xs ++ [u]) → Below B W w' → w.heap.size ≤ w'.heap.size → wpList P ops Q rest (a.put o.dst v') w') : wpList P ops Q (o :: rest) a (w.alloc (.cells #[u] e1)) := by
  have hc : (w.alloc (.cells #[u] e1)).cell? ⟨w.heap.size, 0, none⟩ = some u := (World.cell?_alloc_mark w #[u] e1 (0, 0) 0).trans rfl
  refine wpList_append hgd s x t t ho e i z bytes ht hi hz hsize hby hzs hv (h.alloc _) (by simp; omega) _ 1 [u] hx (Src.ofSlice _ ht ⟨w.heap.size, 0, none⟩ 1 1 [u] rfl (fun j y hy => ?_) (fun y hy => ?_)) h63 hbytes (fun v' w' hown' hg => hK v' w' hown' (below_grown (hb.alloc hB _) (h.alloc _) (by simp; omega) hg) (by have := hg.size; simp at this; omega))
  · cases j with
    | zero => simp at hy; subst hy; exact hc
    | succ j => simp at hy
  · simp at hy; subst hy; exact h1

/-- []byte(s) in a walk: 'intro v' w' hown hb'. -/
theorem wpList_bytes {ops : Array Oper} {rest : List Oper} {o : Oper} {a : Act} {Q : Exit → Act → World → Prop} (hgd : o.guard = none) (x : Operand) (src dst e : TypeId) (ho : o.op = .convert src dst x)
    (hs : P.underlying src = some .string) (hd : P.underlying dst = some (.slice e)) (he : P.underlying e = some (.int .u8)) {w : World} (s : ByteArray) (hx : a.eval x = .string s) (hm : s.size ≤ maxLen)
    (hK : ∀ v' w', Own w.heap.size w' v' (byteCells s) → Below w.heap.size w w' → wpList P ops Q rest (a.put o.dst v') w') : wpList P ops Q (o :: rest) a w := by
  refine wpList_plain hgd fun K hK' => ?_
  have hrun := run_bytes_of_string (P := P) w src dst e s hs hd he
  unfold Oper.wp
  simp [execOp, ho, hx, hrun, Result.andThen]
  exact hK' _ _ (hK _ _ (own_of_string w e s hm) ((Below.refl _ _).drew.alloc (Nat.le_refl _) _))
/-- string(b) in a walk. -/
theorem wpList_back {ops : Array Oper} {rest : List Oper} {o : Oper} {a : Act} {Q : Exit → Act → World → Prop} (hgd : o.guard = none) (x : Operand) (src dst e : TypeId) (ho : o.op = .convert src dst x)
    (hs : P.underlying src = some (.slice e)) (he : P.underlying e = some (.int .u8)) (hd : P.underlying dst = some .string) {B : Nat} {w : World} {v : Value} (hx : a.eval x = v) (l : List UInt8) (h : Own B w v (l.map fun b => Value.int .u8 b.toNat))
    (hK : wpList P ops Q rest (a.put o.dst (.string ⟨l.toArray⟩)) w) : wpList P ops Q (o :: rest) a w := by
  refine wpList_plain hgd fun K hK' => ?_
  have hrun := run_back (P := P) l src dst e hs he hd h
  unfold Oper.wp
  simp [execOp, ho, hx, hrun, Result.andThen]
  exact hK' _ _ hK

/-- string(b), the string under a name. -/
theorem wpList_back_as {ops : Array Oper} {rest : List Oper} {o : Oper} {a : Act} {Q : Exit → Act → World → Prop} (hgd : o.guard = none) (x : Operand) (src dst e : TypeId) (ho : o.op = .convert src dst x)
    (hs : P.underlying src = some (.slice e)) (he : P.underlying e = some (.int .u8)) (hd : P.underlying dst = some .string) {B : Nat} {w : World} {v : Value} (hx : a.eval x = v) (l : List UInt8) (h : Own B w v (l.map fun b => Value.int .u8 b.toNat))
    (s : ByteArray) (hss : s.data.toList = l) (hK : wpList P ops Q rest (a.put o.dst (.string s)) w) : wpList P ops Q (o :: rest) a w := by
  refine wpList_back hgd x src dst e ho hs he hd hx l h ?_
  have : s = ⟨l.toArray⟩ := by cases s; simp only at hss; rw [← hss]
  rw [← this]; exact hK
/-- A slice literal. -/
theorem own_lit (w : World) (e : TypeId) (cs : List Value) (hm : cs.length ≤ maxLen) : Own w.heap.size (w.alloc (.cells cs.toArray e)) (.slice (some ⟨w.heap.size, 0, none⟩) cs.length cs.length) cs := by
  have hc := World.cell?_alloc_mark w cs.toArray e (0, 0)
  have hf := World.frozen?_alloc_mark w cs.toArray e 0 0
  refine .inr ⟨w.heap.size, cs.length, rfl, Nat.le_refl _, by simp, rfl, Nat.le_refl _, hm, ?_, ?_, ?_⟩
  · intro j hj
    exact (hc j).trans (by simp)
  · intro j hj
    refine (congrArg Option.isSome (hc j)).trans ?_
    simp [hj]
  · intro j _
    exact (hf j).trans (by simp)
/-- string of a slice literal that was just built. -/
theorem wpList_back_lit {ops : Array Oper} {rest : List Oper} {o : Oper} {a : Act} {Q : Exit → Act → World → Prop} (hgd : o.guard = none) (x : Operand) (src dst e : TypeId) (ho : o.op = .convert src dst x)
    (hs : P.underlying src = some (.slice e)) (he : P.underlying e = some (.int .u8)) (hd : P.underlying dst = some .string) {w : World} {C : Array Value} {e1 : TypeId} {g n : Nat} (l : List UInt8) (hg : g = w.heap.size) (hn : n = l.length) (hx : a.eval x = .slice (some ⟨g, 0, none⟩) n n)
    (hC : C = (l.map fun b => Value.int .u8 b.toNat).toArray) (hm : l.length ≤ maxLen) (s : ByteArray) (hss : s.data.toList = l) (hK : wpList P ops Q rest (a.put o.dst (.string s)) (w.alloc (.cells C e1))) : wpList P ops Q (o :: rest) a (w.alloc (.cells C e1)) := by
  subst hg hn hC
  have h := own_lit w e1 (l.map fun b => Value.int .u8 b.toNat) (by simpa using hm)
  rw [List.length_map] at h
  exact wpList_back_as hgd x src dst e ho hs he hd hx l h s hss hK
/-- A store into a slice of the call's own: what it holds then. -/
theorem Own.store {B : Nat} {w : World} {g n cap : Nat} {xs : List Value} (h : Own B w (.slice (some ⟨g, 0, none⟩) n cap) xs) (q : Nat) (u : Value) :
    Own B (w.setCell ⟨g, q, none⟩ u) (.slice (some ⟨g, 0, none⟩) n cap) (xs.set q u) := by
  rcases h with ⟨e, _⟩ | ⟨g', cap', e, hb⟩
  · cases e
  · injection e with e1 e2 e3
    injection e1 with e1
    injection e1 with e1
    subst e1 e2 e3
    refine .inr ⟨g, cap, by rw [List.length_set], hb.base, by simp [World.setCell]; exact hb.lt, rfl, by rw [List.length_set]; exact hb.le, hb.max, ?_, ?_, ?_⟩
    · intro j hj
      rw [List.length_set] at hj
      by_cases hq : j = q
      · subst hq
        obtain ⟨v, hv⟩ := Option.isSome_iff_exists.1 (hb.there j (Nat.lt_of_lt_of_le hj hb.le))
        rw [World.cell?_setCell_same w _ _ hv, List.getElem?_set_self hj]
      · rw [World.cell?_setCell_other w _ _ _ (fun e => hq (by injection e with _ e2; exact e2.symm)), List.getElem?_set_ne (Ne.symm hq)]
        exact hb.cells j hj
    · intro j hj
      obtain ⟨v, hv⟩ := Option.isSome_iff_exists.1 (hb.there j hj)
      obtain ⟨v', hv'⟩ := cell?_setCell_some (w := w) (p := ⟨g, q, none⟩) (x := u) (q := ⟨g, j, none⟩) (v := v) hv
      rw [hv']; rfl
    · intro j hj
      rw [World.frozen?_setCell]; exact hb.free j hj
theorem Own.parts {B : Nat} {w : World} {v : Value} {xs : List Value} (h : Own B w v xs) (h0 : 0 < xs.length) : ∃ g cap, v = .slice (some ⟨g, 0, none⟩) xs.length cap ∧ B ≤ g ∧ xs.length ≤ cap ∧
    (∀ j (hj : j < xs.length), w.cell? ⟨g, j, none⟩ = some xs[j]) ∧ (∀ j, j < xs.length → w.frozen? ⟨g, j, none⟩ = false) := by
  rcases h with ⟨_, rfl⟩ | ⟨g, cap, e, hb⟩
  · simp at h0
  · exact ⟨g, cap, e, hb.base, hb.le, fun j hj => by rw [hb.cells j hj, List.getElem?_eq_getElem hj], fun j hj => hb.free j (Nat.lt_of_lt_of_le hj hb.le)⟩
theorem Own.far {B : Nat} {w : World} {g n cap : Nat} {xs : List Value} (h : Own B w (.slice (some ⟨g, 0, none⟩) n cap) xs) {b : Nat} (hne : g ≠ b) (q : Nat) (u : Value) :
    Own B (w.setCell ⟨b, q, none⟩ u) (.slice (some ⟨g, 0, none⟩) n cap) xs := by
  rcases h with ⟨e, _⟩ | ⟨g', cap', e, hb⟩
  · cases e
  · injection e with e1 e2 e3
    injection e1 with e1
    injection e1 with e1
    subst e1 e2 e3
    exact .inr ⟨g, cap, rfl, hb.of_block (Below.heap_setCell _ _ _ _ hne) (by simp [World.setCell])⟩
theorem Own.lt {B : Nat} {w : World} {g n cap : Nat} {xs : List Value} (h : Own B w (.slice (some ⟨g, 0, none⟩) n cap) xs) : g < w.heap.size := by
  rcases h with ⟨e, _⟩ | ⟨g', cap', e, hb⟩
  · cases e
  · injection e with e1 e2 e3
    injection e1 with e1
    injection e1 with e1
    subst e1
    exact hb.lt
end
end Buf
end Go.Proofs.YtldgihlhioeipaaGreat
