/- The lists of a table that is built. -/
import Derived.Test.YtldgihlhioeipaaTravDR
import Derived.Test.YtldgihlhioeipaaPlace
import Derived.Test.YtldgihlhioeipaaLate
namespace Go.Proofs.Ytldgihlhioeipaa
open Go.RowKit
namespace Trav
theorem getD_snoc (xs : List Int) (v : Int) (j : Nat) (hj : j < xs.length + 1) : (xs ++ [v]).getD j 0 = if j < xs.length then xs.getD j 0 else v := by
  by_cases h : j < xs.length
  · rw [if_pos h]; simp [List.getD, List.getElem?_append_left h]
  · rw [if_neg h]
    obtain rfl : j = xs.length := by omega
    simp [List.getD]
structure LF (xs ys : List Int) (lw hg : Int) (k : Nat) : Prop where
  n1 : xs.length = k
  n2 : ys.length = k
  val : ∀ j, j < k → 0 ≤ xs.getD j 0 ∧ xs.getD j 0 ≤ ys.getD j 0
  mono : ∀ i j, i ≤ j → j < k → xs.getD i 0 ≤ xs.getD j 0 ∧ ys.getD i 0 ≤ ys.getD j 0
  top : ∀ j, j < k → xs.getD j 0 ≤ lw ∧ ys.getD j 0 ≤ hg
  l0 : 0 ≤ lw
  lh : lw ≤ hg
  h9 : hg ≤ 1000 * ((k : Int) + 1)
theorem LF.nil {hg : Int} (h0 : 0 ≤ hg) (h9 : hg ≤ 1000) : LF [] [] 0 hg 0 :=
  ⟨rfl, rfl, fun j hj => absurd hj (by omega), fun i j _ hj => absurd hj (by omega), fun j hj => absurd hj (by omega), by omega, h0, by omega⟩
theorem LF.snoc {xs ys : List Int} {lw hg lw' hg' : Int} {k : Nat} (h : LF xs ys lw hg k) (h1 : lw ≤ lw') (h2 : hg ≤ hg') (h3 : lw' ≤ hg') (h4 : hg' ≤ hg + 1000) : LF (xs ++ [lw]) (ys ++ [hg]) lw' hg' (k + 1) := by
  have e1 := h.n1
  have e2 := h.n2
  have l0 := h.l0
  have lh := h.lh
  have h9 := h.h9
  have gx : ∀ j, j < k + 1 → (xs ++ [lw]).getD j 0 = if j < k then xs.getD j 0 else lw := fun j hj => by have := getD_snoc xs lw j (by omega); rwa [e1] at this
  have gy : ∀ j, j < k + 1 → (ys ++ [hg]).getD j 0 = if j < k then ys.getD j 0 else hg := fun j hj => by have := getD_snoc ys hg j (by omega); rwa [e2] at this
  refine ⟨by simp [e1], by simp [e2], fun j hj => ?_, fun i j hij hj => ?_, fun j hj => ?_, by omega, h3, by omega⟩
  · rw [gx j hj, gy j hj]
    by_cases hk : j < k
    · rw [if_pos hk, if_pos hk]; exact h.val j hk
    · rw [if_neg hk, if_neg hk]; exact ⟨l0, lh⟩
  · rw [gx i (by omega), gy i (by omega), gx j hj, gy j hj]
    by_cases hk : j < k
    · rw [if_pos (show i < k by omega), if_pos (show i < k by omega), if_pos hk, if_pos hk]; exact h.mono i j hij hk
    · rw [if_neg hk, if_neg hk]
      by_cases hi : i < k
      · rw [if_pos hi, if_pos hi]; exact h.top i hi
      · rw [if_neg hi, if_neg hi]; exact ⟨Int.le_refl _, Int.le_refl _⟩
  · rw [gx j hj, gy j hj]
    by_cases hk : j < k
    · rw [if_pos hk, if_pos hk]
      have := h.top j hk
      omega
    · rw [if_neg hk, if_neg hk]; omega
theorem info1 : (Try.prog.info? 3).map (fun i => (i.zero, i.size, i.bytes)) = some (some (.int .i64 0), 1, 8) := by kernel_rfl
def vals (xs : List Int) : List Value := xs.map fun z => .int .i64 z
theorem vals_snoc (xs : List Int) (v : Int) : vals xs ++ [.int .i64 v] = vals (xs ++ [v]) := by simp [vals]
theorem own_left {W w w' : World} {g : Nat} {a : Option Addr} {len cap : Nat} {zs : List Int} {B : Nat} {e : TypeId} {sz n : Nat} {v : Value} {xs : List Value} (o : w.ownsRow B e sz v n xs) (l : Src.Left W w w' g a len cap zs) (hg : g < B) : w'.ownsRow B e sz v n xs :=
  o.kept l.far (.inr fun he => by have := (o.lt _ he).1; omega)
theorem own_below {w w' : World} {B : Nat} {e : TypeId} {sz n : Nat} {v : Value} {xs : List Value} (o : w.ownsRow B e sz v n xs) (h : Below w.heap.size w w') : w'.ownsRow B e sz v n xs :=
  o.kept (Src.grown_of_below (r := none) h) (by cases v.ownBlock with | none => exact .inl rfl | some k => exact .inr (by simp))
theorem left_grown {W w w1 w' : World} {g : Nat} {a : Option Addr} {len cap : Nat} {zs : List Int} {row : Option Nat} (h : Src.Di W w g a len cap zs) (l : Src.Left W w w1 g a len cap zs) (hg : w1.grownBy w' row) (hrow : ∀ k, row = some k → w.heap.size ≤ k) : Src.Left W w w' g a len cap zs :=
  Src.Left.past h l (Below.grown (Below.refl _ _) hg l.far.size hrow)
theorem grown_store (w : World) (tb i : Nat) (v : Value) : w.grownBy (w.setCell ⟨tb, i, none⟩ v) (some tb) :=
  ⟨rfl, rfl, rfl, by simp [World.setCell], fun k _ hne => Below.heap_setCell w _ _ k (fun e => hne (by rw [e]))⟩
/-- The memory while a table is built: the result's cell in rb, the table in tb, its two lists in blocks from B on. -/
structure Mem (W w wx : World) (g : Nat) (a : Option Addr) (len cap : Nat) (zs : List Int) (rb tb : Nat) (s : Int) (z : Obj) (t1 t2 : Value) (v1 : Value) (n1 : Nat) (xs : List Value) (v2 : Value) (n2 : Nat) (ys : List Value) : Prop where
  p0 : wx.heap[rb]? = some z
  p1 : wx.heap[tb]? = some (.cells #[.int .i64 s, t1, t2] 33 (0, 0))
  o1 : wx.ownsRow (tb + 1) 3 1 v1 n1 xs
  o2 : wx.ownsRow (tb + 1) 3 1 v2 n2 ys
  dd : ∀ b, v1.ownBlock = some b → v2.ownBlock ≠ some b
  L : Src.Left W w wx g a len cap zs
  r1 : w.heap.size ≤ tb
  r2 : rb < tb
  D : Src.Di W w g a len cap zs
section
variable {W w wx w' : World} {g : Nat} {a : Option Addr} {len cap : Nat} {zs : List Int} {rb tb : Nat} {s : Int} {z : Obj} {t1 t2 v1 v2 : Value} {n1 n2 : Nat} {xs ys : List Value}
theorem Mem.below (h : Mem W w wx g a len cap zs rb tb s z t1 t2 v1 n1 xs v2 n2 ys) (hb : Below wx.heap.size wx w') : Mem W w w' g a len cap zs rb tb s z t1 t2 v1 n1 xs v2 n2 ys :=
  ⟨blk_b hb h.p0, blk_b hb h.p1, own_below h.o1 hb, own_below h.o2 hb, h.dd, h.L.below hb, h.r1, h.r2, h.D⟩
theorem Mem.alloc (h : Mem W w wx g a len cap zs rb tb s z t1 t2 v1 n1 xs v2 n2 ys) (o : Obj) : Mem W w (wx.alloc o) g a len cap zs rb tb s z t1 t2 v1 n1 xs v2 n2 ys := h.below (new_block o)
theorem Mem.drew (h : Mem W w wx g a len cap zs rb tb s z t1 t2 v1 n1 xs v2 n2 ys) : Mem W w wx.drew g a len cap zs rb tb s z t1 t2 v1 n1 xs v2 n2 ys := h.below ((Below.refl _ _).drew)
theorem Mem.left (h : Mem W w wx g a len cap zs rb tb s z t1 t2 v1 n1 xs v2 n2 ys) (l : Src.Left W wx w' g a len cap zs) (hr : rb ≠ g) : Mem W w w' g a len cap zs rb tb s z t1 t2 v1 n1 xs v2 n2 ys := by
  have hg := h.D.lt
  have hr1 := h.r1
  exact ⟨l.blk h.p0 hr, l.blk h.p1 (by omega), own_left h.o1 l (by omega), own_left h.o2 l (by omega), h.dd, h.L.trans l, h.r1, h.r2, h.D⟩
theorem Mem.app1 (h : Mem W w wx g a len cap zs rb tb s z t1 t2 v1 n1 xs v2 n2 ys) {gg c n : Nat} {us : List Value} (own : w'.ownsRow (tb + 1) 3 1 (.slice (some ⟨gg, 0, none⟩) n c) n us) (hg : wx.grownBy w' v1.ownBlock) (hat : v1.ownBlock = some gg ∨ gg = wx.heap.size) :
    Mem W w w' g a len cap zs rb tb s z t1 t2 (.slice (some ⟨gg, 0, none⟩) n c) n us v2 n2 ys := by
  have hr1 := h.r1
  have hr2 := h.r2
  have hrow : ∀ k, v1.ownBlock = some k → tb + 1 ≤ k := fun k hk => (h.o1.lt k hk).1
  refine ⟨(hg.block rb (Array.getElem?_eq_some_iff.1 h.p0).1 (fun e => by have := hrow _ e.symm; omega)).trans h.p0, (hg.block tb (Array.getElem?_eq_some_iff.1 h.p1).1 (fun e => by have := hrow _ e.symm; omega)).trans h.p1, own, h.o2.kept hg ?_, ?_, left_grown h.D h.L hg (fun k hk => by have := hrow k hk; omega), h.r1, h.r2, h.D⟩
  · cases hv : v2.ownBlock with
    | none => exact .inl rfl
    | some b => exact .inr fun e => h.dd b e.symm hv
  · intro b hb hv
    simp only [Value.ownBlock, Option.some.injEq] at hb
    subst hb
    rcases hat with hat | hat
    · exact h.dd _ hat hv
    · have := (h.o2.lt _ hv).2
      omega
theorem Mem.app2 (h : Mem W w wx g a len cap zs rb tb s z t1 t2 v1 n1 xs v2 n2 ys) {gg c n : Nat} {us : List Value} (own : w'.ownsRow (tb + 1) 3 1 (.slice (some ⟨gg, 0, none⟩) n c) n us) (hg : wx.grownBy w' v2.ownBlock) (hat : v2.ownBlock = some gg ∨ gg = wx.heap.size) :
    Mem W w w' g a len cap zs rb tb s z t1 t2 v1 n1 xs (.slice (some ⟨gg, 0, none⟩) n c) n us := by
  have hr1 := h.r1
  have hr2 := h.r2
  have hrow : ∀ k, v2.ownBlock = some k → tb + 1 ≤ k := fun k hk => (h.o2.lt k hk).1
  refine ⟨(hg.block rb (Array.getElem?_eq_some_iff.1 h.p0).1 (fun e => by have := hrow _ e.symm; omega)).trans h.p0, (hg.block tb (Array.getElem?_eq_some_iff.1 h.p1).1 (fun e => by have := hrow _ e.symm; omega)).trans h.p1, h.o1.kept hg ?_, own, ?_, left_grown h.D h.L hg (fun k hk => by have := hrow k hk; omega), h.r1, h.r2, h.D⟩
  · cases hv : v1.ownBlock with
    | none => exact .inl rfl
    | some b => exact .inr fun e => h.dd b hv e.symm
  · intro b hb hv
    simp only [Value.ownBlock, Option.some.injEq] at hv
    subst hv
    rcases hat with hat | hat
    · exact h.dd _ hb hat
    · have := (h.o1.lt _ hb).2
      omega
theorem Mem.store1 (h : Mem W w wx g a len cap zs rb tb s z t1 t2 v1 n1 xs v2 n2 ys) (v : Value) : Mem W w (wx.setCell ⟨tb, 1, none⟩ v) g a len cap zs rb tb s z v t2 v1 n1 xs v2 n2 ys := by
  have hg := grown_store wx tb 1 v
  have hr1 := h.r1
  have hr2 := h.r2
  exact ⟨(Below.heap_setCell wx _ _ rb (by simp; omega)).trans h.p0, (heap_setCell_same wx tb 1 _ _ v h.p1).trans rfl, h.o1.kept hg (.inr fun e => by have := (h.o1.lt _ e).1; omega), h.o2.kept hg (.inr fun e => by have := (h.o2.lt _ e).1; omega), h.dd, left_grown h.D h.L hg (fun k hk => by simp at hk; omega), h.r1, h.r2, h.D⟩
theorem Mem.store2 (h : Mem W w wx g a len cap zs rb tb s z t1 t2 v1 n1 xs v2 n2 ys) (v : Value) : Mem W w (wx.setCell ⟨tb, 2, none⟩ v) g a len cap zs rb tb s z t1 v v1 n1 xs v2 n2 ys := by
  have hg := grown_store wx tb 2 v
  have hr1 := h.r1
  have hr2 := h.r2
  exact ⟨(Below.heap_setCell wx _ _ rb (by simp; omega)).trans h.p0, (heap_setCell_same wx tb 2 _ _ v h.p1).trans rfl, h.o1.kept hg (.inr fun e => by have := (h.o1.lt _ e).1; omega), h.o2.kept hg (.inr fun e => by have := (h.o2.lt _ e).1; omega), h.dd, left_grown h.D h.L hg (fun k hk => by simp at hk; omega), h.r1, h.r2, h.D⟩
theorem Mem.cells (h : Mem W w wx g a len cap zs rb tb s z t1 t2 v1 n1 xs v2 n2 ys) : wx.cell? ⟨tb, 0, none⟩ = some (.int .i64 s) ∧ wx.cell? ⟨tb, 1, none⟩ = some t1 ∧ wx.cell? ⟨tb, 2, none⟩ = some t2 ∧ wx.frozen? ⟨tb, 1, none⟩ = false ∧ wx.frozen? ⟨tb, 2, none⟩ = false :=
  ⟨cell_of_row wx tb 0 _ _ _ h.p1, cell_of_row wx tb 1 _ _ _ h.p1, cell_of_row wx tb 2 _ _ _ h.p1, frozen_of_row wx tb 1 _ _ h.p1, frozen_of_row wx tb 2 _ _ h.p1⟩
theorem Mem.size (h : Mem W w wx g a len cap zs rb tb s z t1 t2 v1 n1 xs v2 n2 ys) : tb + 1 ≤ wx.heap.size := (Array.getElem?_eq_some_iff.1 h.p1).1
end
theorem app_step {P : Program} {o : Oper} {a : Act} {K : Act → World → Prop} {Q : Exit → Act → World → Prop} {w : World} (s x : Operand) (t : TypeId)
    (ho : o.op = .call { callee := .builtin .append, args := #[s, x], argTypes := #[t, t] })
    (B : Nat) (e e1 : TypeId) (i : TypeInfo) (z : Value) (bytes : Nat) (ht : P.underlying t = some (.slice e)) (hi : P.info? e = some i) (hz : i.zero = some z) (hsize : i.size = 1) (hby : i.bytes = bytes) (hzs : z.cells.size = 1)
    (v : Value) (n : Nat) (xs : List Value) (hv : a.eval s = v) (own : w.ownsRow B e 1 v n xs) (N : Nat) (u : Value) (hblk : w.heap[N]? = some (.cells #[u] e1 (0, 0))) (hu : u.oneCell' = true) (hx : a.eval x = .slice (some ⟨N, 0, none⟩) 1 1)
    (h63 : n + 1 ≤ maxLen) (hbytes : (n + 1) * bytes ≤ 140737488355328) (hB : B ≤ w.heap.size)
    (h : ∀ gg c w', w'.ownsRow B e 1 (.slice (some ⟨gg, 0, none⟩) (n + 1) c) (n + 1) (xs ++ [u]) → w.grownBy w' v.ownBlock → (v.ownBlock = some gg ∨ gg = w.heap.size) → K (a.put o.dst (.slice (some ⟨gg, 0, none⟩) (n + 1) c)) w') : o.wp P a w K Q :=
  wp_append_lies w s x t ho B e i z 1 bytes ht hi hz hsize hby hzs (by decide) v n xs hv own ⟨N, 0, none⟩ 1 1 [u] hx rfl (World.news_of_block (cs := #[u]) hblk) (fun u' h' => by simp at h'; rw [h']; exact hu) (by decide) h63 hbytes hB w.heap.size rfl fun gg c w' h2 h3 h4 _ => h gg c w' h2 h3 h4
theorem ints_of_own {w : World} {B b n c : Nat} {e : TypeId} {xs : List Int} (o : w.ownsRow B e 1 (.slice (some ⟨b, 0, none⟩) n c) n (vals xs)) : Src.Ints w b xs := by
  intro j hj
  have h := o.cells (g := b) rfl j (.int .i64 (xs.getD j 0)) (by simp [vals, List.getD, hj])
  rwa [Addr.add_lit, Nat.zero_add] at h
theorem TV.kept {W w : World} {s : Int} {b1 b2 n : Nat} {lo hi : List Int} (h : TV W s b1 b2 n lo hi) (h1 : w.heap[b1]? = W.heap[b1]?) (h2 : w.heap[b2]? = W.heap[b2]?) (hs : W.heap.size ≤ w.heap.size) : TV w s b1 b2 n lo hi :=
  ⟨ints_kept h.l1 h1, ints_kept h.l2 h2, h.n1, h.n2, h.n3, h.n9, h.s1, h.s9, h.val, h.mono, Nat.lt_of_lt_of_le h.e1 hs, Nat.lt_of_lt_of_le h.e2 hs⟩
theorem tv_of {w : World} {s : Int} {B b1 b2 n c1 c2 : Nat} {e : TypeId} {xs ys : List Int} {lw hw : Int} (o1 : w.ownsRow B e 1 (.slice (some ⟨b1, 0, none⟩) n c1) n (vals xs)) (o2 : w.ownsRow B e 1 (.slice (some ⟨b2, 0, none⟩) n c2) n (vals ys)) (f : LF xs ys lw hw n)
    (n3 : 2 ≤ n) (n9 : n ≤ 23) (s1 : 1 ≤ s) (s9 : s ≤ 1048576) : TV w s b1 b2 n xs ys where
  l1 := ints_of_own o1
  l2 := ints_of_own o2
  n1 := f.n1
  n2 := f.n2
  n3 := n3
  n9 := by omega
  s1 := s1
  s9 := s9
  val := fun j hj => by
    have h1 := f.val j hj
    have h2 := f.top j hj
    have h3 := f.h9
    omega
  mono := f.mono
  e1 := (o1.lt b1 rfl).2
  e2 := (o2.lt b2 rfl).2
theorem TV.left {W w w' : World} {g : Nat} {a : Option Addr} {len cap : Nat} {zs : List Int} {s : Int} {b1 b2 n : Nat} {lo hi : List Int} (h : TV w s b1 b2 n lo hi) (l : Src.Left W w w' g a len cap zs) (h1 : b1 ≠ g) (h2 : b2 ≠ g) : TV w' s b1 b2 n lo hi :=
  h.kept (l.far.block b1 h.e1 (by simpa using h1)) (l.far.block b2 h.e2 (by simpa using h2)) l.far.size
/-- What Table returns. -/
def TableSaid (B : Nat) (e : Ending) (w' : World) : Prop := ∃ (s : Int) (b1 b2 n c1 c2 : Nat) (lo hi : List Int), e = .returned (.agg #[.int .i64 s, .slice (some ⟨b1, 0, none⟩) n c1, .slice (some ⟨b2, 0, none⟩) n c2]) ∧ TV w' s b1 b2 n lo hi ∧ 400 ≤ s * ((n : Int) - 1) ∧ s ≤ 100 ∧ n ≤ 23 ∧ B ≤ b1 ∧ B ≤ b2
theorem step_of {s : Int} (h : s ∈ [20, 25, 40, 100]) : 20 ≤ s ∧ s ≤ 100 ∧ s * (400 / s) = 400 ∧ 4 ≤ 400 / s ∧ 400 / s ≤ 20 ∧ 5 ≤ s / 4 ∧ s / 4 ≤ 25 := by
  simp only [List.mem_cons, List.not_mem_nil, or_false] at h
  rcases h with rfl | rfl | rfl | rfl <;> decide
end Trav
end Go.Proofs.Ytldgihlhioeipaa
