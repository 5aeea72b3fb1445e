/- detector.Run. -/
import Derived.Test.YtbmcmiggifknfaaDoorDetC
import Derived.Test.YtbmcmiggifknfaaDoorInv
set_option linter.unusedVariables false
set_option linter.unusedSimpArgs false
namespace Go.Proofs.YtbmcmiggifknfaaDoor
open Go.RowKit Wi Dice
namespace Det
theorem scn_len (d : Dt) (V : Nat → Int) : ∀ k, (scn d V k).1.length ≤ k := by
  intro k
  induction k with
  | zero => simp [scn]
  | succ k ih =>
    show (step d V k (scn d V k).1 (scn d V k).2).1.length ≤ k + 1
    unfold step
    split
    · show (scn d V k).1.length ≤ k + 1
      omega
    split
    · split <;> (show (scn d V k).1.length ≤ k + 1; omega)
    split
    · show (scn d V k).1.length ≤ k + 1
      omega
    · simp only [List.length_append, List.length_cons, List.length_nil]; omega
theorem scn_off (d : Dt) (V : Nat → Int) (hL : 2 ≤ d.L) : ∀ k t, t ∈ (scn d V k).1 → t.off ≠ 0 := by
  intro k
  induction k with
  | zero => intro t h; simp [scn] at h
  | succ k ih =>
    intro t h
    change t ∈ (step d V k (scn d V k).1 (scn d V k).2).1 at h
    unfold step at h
    split at h
    · exact ih t h
    split at h
    · split at h <;> exact ih t h
    split at h
    · exact ih t h
    · simp only [List.mem_append, List.mem_singleton] at h
      rcases h with h | rfl
      · exact ih t h
      · show (k : Int) ≠ 0
        omega
theorem own_nonzero {B : Nat} {w : World} {v : Value} {e : List Tr} (h : w.ownsRow B 32 3 v e.length (row e)) (hn : e = [] → v = .slice none 0 0) (ho : ∀ t, t ∈ e → t.off ≠ 0) :
    ∀ b, Value.ownBlock v = some b → w.heap[b]? ≠ some (.cells #[.int .i64 0, .int .i64 0, .int .i64 0] 32 (0, 0)) := by
  intro b hb hz
  cases e with
  | nil => rw [hn rfl] at hb; cases hb
  | cons t l =>
    rcases h.2 with ⟨rfl, _⟩ | ⟨g, cap, cur, rfl, _, hg, _, _, _, ht⟩
    · cases hb
    · obtain rfl : g = b := Option.some.inj hb
      rw [hz] at hg
      injection Option.some.inj hg with e1 _ _
      subst e1
      have e2 : row (t :: l) = .int .i64 t.on :: .int .i64 t.off :: .int .i64 t.pk :: row l := by simp [row, Tri.cells]
      rw [e2] at ht
      have h3 : (List.length (t :: l) * 3) = List.length l * 3 + 1 + 1 + 1 := by simp only [List.length_cons]; omega
      rw [h3] at ht
      simp only [List.take_succ_cons] at ht
      injection ht with _ ht
      injection ht with ht _
      injection ht with _ ht
      exact ho t (List.mem_cons_self ..) ht.symm
/-- What Run returns. -/
def Ran (B : Nat) (l : List Tr) (e : Ending) (w : World) : Prop := ∃ v, e = .returned (.tuple #[v, .int .i64 0]) ∧ w.ownsRow B 32 3 v l.length (row l)
set_option maxHeartbeats 8000000 in
set_option maxRecDepth 100000 in
theorem run_any {w : World} {u : Value} {n S L : Nat} {X : Nat → Int} {ON OFF : Int} (hd : DG ⟨S, L, ON, OFF⟩) (hx : SV w u n X) (hn : n ≤ 1000) (hX : ∀ j, j < n → -1073741823 ≤ X j ∧ X j ≤ 1073741823) (hcl : Cl w) :
    Calls Tryd.prog 17 #[.agg #[.int .i64 S, .int .i64 L, .int .i64 ON, .int .i64 OFF], u] w fun e w' => Ran w.heap.size (runL ⟨S, L, ON, OFF⟩ (ab X) n) e w' ∧ Below w.heap.size w w' := by
  obtain ⟨i0, hi, hz0, hz1, hz2⟩ := info_parts infoT
  have VD := Lib.hid fun (w' : World) => valid_yes hd w'
  have IR := Lib.hid fun (w' : World) (h : Below w.heap.size w w') => inRange_any (hx.below h) (by omega) hX
  have hab : ∀ j, j < n → 0 ≤ ab X j ∧ ab X j ≤ 1073741823 := fun j hj => by have := hX j hj; unfold ab; omega
  have l2 : 2 ≤ L := by have := hd.s1; have := hd.sl; simp only at *; omega
  have hoff := Lib.hid (scn_off ⟨S, L, ON, OFF⟩ (ab X) l2 n)
  have hlen := scn_len ⟨S, L, ON, OFF⟩ (ab X) n
  unfold runL
  obtain ⟨se, on, off, pk, hse⟩ : ∃ se on off pk, scn ⟨S, L, ON, OFF⟩ (ab X) n = (se, ⟨on, off, pk⟩) := ⟨_, _, _, _, rfl⟩
  rw [hse] at hoff hlen ⊢
  simp only at hlen
  replace hse := Lib.hid hse
  have AB0 := Lib.hid fun (w' : World) (h : Below w.heap.size w w') => absolute_any (hx.below h) (by omega) hX
  have SC0 := Lib.hid fun (w' : World) (h : Below w.heap.size w w') (v : Value) (hv : SV w' v n (ab X)) => scan_any hd hv hn hab (hbk h hcl)
  have CL0 := Lib.hid hcl
  obtain ⟨a, c, rfl, h1, h2, h3⟩ := hx
  clear h2 h3 hX hab hcl hd l2
  obtain ⟨w1, hw1⟩ : ∃ w1, w1 = w.alloc (.cells #[.int .i64 S, .int .i64 L, .int .i64 ON, .int .i64 OFF] 28) := ⟨_, rfl⟩
  have YZ : Hid (Below w.heap.size w w1) := Lib.hid (by rw [hw1]; exact new_block _)
  have KA := Lib.hid (show w1.heap[w.heap.size]? = some (.cells #[.int .i64 S, .int .i64 L, .int .i64 ON, .int .i64 OFF] 28 (0, 0)) by rw [hw1]; exact heap_alloc_new w _)
  have en : (n : Int) ≤ 65536 := by omega
  go_enter Tryd.func17, Tryd.ntmps17
  go_upto_region 1 with fail
  rw [← hw1]
  clear hw1
  obtain ⟨d0, d1, d2, d3⟩ := c4 KA.out
  go_upto_region 7 with (first
    | (go_at_call 22; with_reducible refine (VD.out _).mono ?_; rintro e w2 ⟨rfl, hc⟩; (replace KA := Lib.hid (hbk hc KA.out)); (replace YZ := Lib.hid (Buf.then_ YZ.out hc)); (clear d0 d1 d2 d3); (obtain ⟨d0, d1, d2, d3⟩ := c4 KA.out))
    | (go_at_call 25; with_reducible refine (IR.out _ YZ.out).mono ?_; rintro e wz ⟨rfl, hc⟩; (replace KA := Lib.hid (hbk hc KA.out)); (replace YZ := Lib.hid (Buf.then_ YZ.out hc)); (clear d0 d1 d2 d3); (obtain ⟨d0, d1, d2, d3⟩ := c4 KA.out)))
  clear d0 d1 d2 d3 VD IR
  have AB := Lib.hid fun (w' : World) (h : Below wz.heap.size wz w') => AB0.out w' (Buf.then_ YZ.out h)
  have SC := Lib.hid fun (w' : World) (h : Below wz.heap.size wz w') (v : Value) (hv : SV w' v n (ab X)) => SC0.out w' (Buf.then_ YZ.out h) v hv
  have CZ := Lib.hid (hbk YZ.out CL0.out)
  have zsz : Hid (w.heap.size + 1 ≤ wz.heap.size) := Lib.hid (Array.getElem?_eq_some_iff.1 KA.out).1
  clear AB0 SC0 CL0 hc
  have hw0 : Below wz.heap.size wz wz.drew := (Below.refl _ _).drew
  refine wp_region_noPanic ?_
  refine wp_region_any (by kernel_rfl) ?_
  refine Inv.wpAny_inv (fun k => k == 10) [18, 19, 20, 21, 22, 17, 23, 24, 7, 6] (fun w' => Below wz.heap.size wz w') (fun _ w1 w2 => Below w1.heap.size w1 w2) (fun k => ([fun v_ w_ => v_ = .agg #[.int .i64 S, .int .i64 L, .int .i64 ON, .int .i64 OFF], fun v_ w_ => v_ = .slice a n c, fun v_ w_ => SV w_ v_ n (ab X), fun v_ w_ => v_ = .agg #[.int .i64 (-1), .int .i64 0, .int .i64 0], fun v_ w_ => ∃ q_, v_ = .tuple #[q_, .agg #[.int .i64 on, .int .i64 off, .int .i64 pk]] ∧ w_.ownsRow w.heap.size 32 3 q_ se.length (row se) ∧ (∀ b, Value.ownBlock q_ = some b → w_.heap[b]? ≠ some (.cells #[.int .i64 0, .int .i64 0, .int .i64 0] 32 (0, 0))), fun v_ w_ => ∃ q_, v_ = .tuple #[q_, .agg #[.int .i64 on, .int .i64 off, .int .i64 pk]] ∧ w_.ownsRow w.heap.size 32 3 q_ se.length (row se) ∧ (∀ b, Value.ownBlock q_ = some b → w_.heap[b]? ≠ some (.cells #[.int .i64 0, .int .i64 0, .int .i64 0] 32 (0, 0))), fun v_ w_ => w_.ownsRow w.heap.size 32 3 v_ se.length (row se) ∧ (∀ b, Value.ownBlock v_ = some b → w_.heap[b]? ≠ some (.cells #[.int .i64 0, .int .i64 0, .int .i64 0] 32 (0, 0))), fun v_ w_ => v_ = .agg #[.int .i64 on, .int .i64 off, .int .i64 pk], fun v_ w_ => ∃ g_, v_ = .pointer (some ⟨g_, 0, none⟩) ∧ w_.heap[g_]? = some (.cells #[.int .i64 0, .int .i64 0, .int .i64 0] 32 (0, 0)) ∧ w.heap.size + 1 ≤ g_, fun v_ w_ => w_.ownsRow w.heap.size 32 3 v_ se.length (row se) ∧ (∀ b, Value.ownBlock v_ = some b → w_.heap[b]? ≠ some (.cells #[.int .i64 0, .int .i64 0, .int .i64 0] 32 (0, 0))), fun v_ w_ => True] : List (Value → World → Prop)).getD k (fun _ _ => True)) _ (fun σ => by simp only [Inv.putAll, List.foldl_cons, List.foldl_nil, Act.put, List.setIfInBounds_toArray, List.set_cons_zero, List.set_cons_succ]; rfl) (by kernel_rfl) (by kernel_rfl) ?_ hw0 ?_ ?_ 1 #[true, true, true, true, true, true, true, true, true, true, false] (by kernel_rfl) (by kernel_rfl) ?_
  · intro j k v w1 w2 hjk hv hr
    rcases k with _ | k
    · exact hv
    rcases k with _ | k
    · exact hv
    rcases k with _ | k
    · exact (SV.below hv hr)
    rcases k with _ | k
    · exact hv
    rcases k with _ | k
    · exact (by obtain ⟨v_, h1, h2, h3⟩ := hv; exact ⟨v_, h1, (h2.kept (Dice.grown_of_below (r := none) hr) (by cases Value.ownBlock v_ <;> simp)), (fun b hb => by rw [hr.block b (h2.lt b hb).2]; exact h3 b hb)⟩)
    rcases k with _ | k
    · exact (by obtain ⟨v_, h1, h2, h3⟩ := hv; exact ⟨v_, h1, (h2.kept (Dice.grown_of_below (r := none) hr) (by cases Value.ownBlock v_ <;> simp)), (fun b hb => by rw [hr.block b (h2.lt b hb).2]; exact h3 b hb)⟩)
    rcases k with _ | k
    · exact (by exact ⟨(hv.1.kept (Dice.grown_of_below (r := none) hr) (by cases Value.ownBlock v <;> simp)), (fun b hb => by rw [hr.block b (hv.1.lt b hb).2]; exact hv.2 b hb)⟩)
    rcases k with _ | k
    · exact hv
    rcases k with _ | k
    · exact (by obtain ⟨g_, h1, h2, h3⟩ := hv; exact ⟨g_, h1, hbk hr h2, h3⟩)
    rcases k with _ | k
    · exact (by exact ⟨(hv.1.kept (Dice.grown_of_below (r := none) hr) (by cases Value.ownBlock v <;> simp)), (fun b hb => by rw [hr.block b (hv.1.lt b hb).2]; exact hv.2 b hb)⟩)
    rcases k with _ | k
    · exact hv
    · exact hv
  · intro k t hl hd
    rcases k with _ | k
    · exact absurd hl (by decide +kernel)
    rcases k with _ | k
    · exact absurd hl (by decide +kernel)
    rcases k with _ | k
    · exact absurd hl (by decide +kernel)
    rcases k with _ | k
    · exact absurd hl (by decide +kernel)
    rcases k with _ | k
    · exact absurd hl (by decide +kernel)
    rcases k with _ | k
    · exact absurd hl (by decide +kernel)
    rcases k with _ | k
    · exact absurd hl (by decide +kernel)
    rcases k with _ | k
    · exact absurd hl (by decide +kernel)
    rcases k with _ | k
    · exact absurd hl (by decide +kernel)
    rcases k with _ | k
    · exact absurd hl (by decide +kernel)
    rcases k with _ | k
    · exact absurd hl (by decide +kernel)
    · simp at hd
  · show Inv.Steps _ _ _ _ _ _ _ _ [0, 1, 2, 3, 4, 5, 6, 7, 8, 9]
    refine Inv.Steps.go (by decide) (by rfl) (fun σ wx hw hd K hK => ?_) ?_
    · simp only [List.getElem_toArray, List.getElem_cons_zero, List.getElem_cons_succ, Act.put, List.setIfInBounds_toArray, List.set_cons_zero, List.set_cons_succ] at hK ⊢
      refine wp_load_row 28 (.tmp 2) rfl w.heap.size rfl 28 #[.int .i64 S, .int .i64 L, .int .i64 ON, .int .i64 OFF] (0, 0) _ (hbk hw KA.out) rfl rfl rfl ?_
      simp only [Act.put, List.setIfInBounds_toArray, List.set_cons_zero, List.set_cons_succ]
      exact hK.out _ _ hw (Below.refl _ _) (rfl)
    refine Inv.Steps.go (by decide) (by rfl) (fun σ wx hw hd K hK => ?_) ?_
    · simp only [List.getElem_toArray, List.getElem_cons_zero, List.getElem_cons_succ, Act.put, List.setIfInBounds_toArray, List.set_cons_zero, List.set_cons_succ] at hK ⊢
      go_simp
      exact hK.out _ _ hw (Below.refl _ _) (rfl)
    refine Inv.Steps.go (by decide) (by rfl) (fun σ wx hw hd K hK => ?_) ?_
    · obtain e19 : (σ 19) = .slice a n c := hd 1 (some 19) (by kernel_rfl) (by rfl)
      simp only [List.getElem_toArray, List.getElem_cons_zero, List.getElem_cons_succ, Act.put, List.setIfInBounds_toArray, List.set_cons_zero, List.set_cons_succ, e19] at hK ⊢
      go_simp
      go_at_call 27
      refine (AB.out wx hw).mono ?_
      rintro e w1 ⟨⟨r, rfl, hr⟩, hc⟩
      dsimp only
      exact hK.out _ _ (Buf.then_ hw hc) hc (hr)
    refine Inv.Steps.go (by decide) (by rfl) (fun σ wx hw hd K hK => ?_) ?_
    · simp only [List.getElem_toArray, List.getElem_cons_zero, List.getElem_cons_succ, Act.put, List.setIfInBounds_toArray, List.set_cons_zero, List.set_cons_succ] at hK ⊢
      refine wp_load_row 32 (.global 0) rfl 0 rfl 32 #[.int .i64 (-1), .int .i64 0, .int .i64 0] (0, 0) _ (hbk hw CZ.out) rfl rfl rfl ?_
      simp only [Act.put, List.setIfInBounds_toArray, List.set_cons_zero, List.set_cons_succ]
      exact hK.out _ _ hw (Below.refl _ _) (rfl)
    refine Inv.Steps.go (by decide) (by rfl) (fun σ wx hw hd K hK => ?_) ?_
    · obtain e18 : (σ 18) = .agg #[.int .i64 S, .int .i64 L, .int .i64 ON, .int .i64 OFF] := hd 0 (some 18) (by kernel_rfl) (by rfl)
      obtain h20 : SV wx (σ 20) n (ab X) := hd 2 (some 20) (by kernel_rfl) (by rfl)
      obtain e21 : (σ 21) = .agg #[.int .i64 (-1), .int .i64 0, .int .i64 0] := hd 3 (some 21) (by kernel_rfl) (by rfl)
      simp only [List.getElem_toArray, List.getElem_cons_zero, List.getElem_cons_succ, Act.put, List.setIfInBounds_toArray, List.set_cons_zero, List.set_cons_succ, e18, e21] at hK ⊢
      go_simp
      go_at_call 28
      refine (SC.out wx hw _ h20).mono ?_
      rintro e w1 ⟨⟨v, rfl, ho, hnil⟩, hc⟩
      rw [hse.out] at ho hnil ⊢
      dsimp only at ho hnil ⊢
      have hz := own_nonzero ho hnil hoff.out
      replace ho := own_mono ho (Buf.then_ YZ.out hw).size
      exact hK.out _ _ (Buf.then_ hw hc) hc (⟨v, rfl, ho, hz⟩)
    refine Inv.Steps.go (by decide) (by rfl) (fun σ wx hw hd K hK => ?_) ?_
    · obtain ⟨v22, e22, o22, z22⟩ : ∃ q_, (σ 22) = .tuple #[q_, .agg #[.int .i64 on, .int .i64 off, .int .i64 pk]] ∧ wx.ownsRow w.heap.size 32 3 q_ se.length (row se) ∧ (∀ b, Value.ownBlock q_ = some b → wx.heap[b]? ≠ some (.cells #[.int .i64 0, .int .i64 0, .int .i64 0] 32 (0, 0))) := hd 4 (some 22) (by kernel_rfl) (by rfl)
      simp only [List.getElem_toArray, List.getElem_cons_zero, List.getElem_cons_succ, Act.put, List.setIfInBounds_toArray, List.set_cons_zero, List.set_cons_succ, e22] at hK ⊢
      go_simp
      exact hK.out _ _ hw (Below.refl _ _) (⟨v22, rfl, o22, z22⟩)
    refine Inv.Steps.go (by decide) (by rfl) (fun σ wx hw hd K hK => ?_) ?_
    · obtain ⟨v17, e17, o17, z17⟩ : ∃ q_, (σ 17) = .tuple #[q_, .agg #[.int .i64 on, .int .i64 off, .int .i64 pk]] ∧ wx.ownsRow w.heap.size 32 3 q_ se.length (row se) ∧ (∀ b, Value.ownBlock q_ = some b → wx.heap[b]? ≠ some (.cells #[.int .i64 0, .int .i64 0, .int .i64 0] 32 (0, 0))) := hd 5 (some 17) (by kernel_rfl) (by rfl)
      simp only [List.getElem_toArray, List.getElem_cons_zero, List.getElem_cons_succ, Act.put, List.setIfInBounds_toArray, List.set_cons_zero, List.set_cons_succ, e17] at hK ⊢
      go_simp
      exact hK.out _ _ hw (Below.refl _ _) (⟨o17, z17⟩)
    refine Inv.Steps.go (by decide) (by rfl) (fun σ wx hw hd K hK => ?_) ?_
    · obtain ⟨v17, e17, o17, z17⟩ : ∃ q_, (σ 17) = .tuple #[q_, .agg #[.int .i64 on, .int .i64 off, .int .i64 pk]] ∧ wx.ownsRow w.heap.size 32 3 q_ se.length (row se) ∧ (∀ b, Value.ownBlock q_ = some b → wx.heap[b]? ≠ some (.cells #[.int .i64 0, .int .i64 0, .int .i64 0] 32 (0, 0))) := hd 5 (some 17) (by kernel_rfl) (by rfl)
      simp only [List.getElem_toArray, List.getElem_cons_zero, List.getElem_cons_succ, Act.put, List.setIfInBounds_toArray, List.set_cons_zero, List.set_cons_succ, e17] at hK ⊢
      go_simp
      exact hK.out _ _ hw (Below.refl _ _) (rfl)
    refine Inv.Steps.go (by decide) (by rfl) (fun σ wx hw hd K hK => ?_) ?_
    · simp only [List.getElem_toArray, List.getElem_cons_zero, List.getElem_cons_succ, Act.put, List.setIfInBounds_toArray, List.set_cons_zero, List.set_cons_succ] at hK ⊢
      have hnew := heap_alloc_new wx (.cells #[.int .i64 0, .int .i64 0, .int .i64 0] 32)
      go_simp
      exact hK.out _ _ (Buf.then_ hw (new_block _)) (new_block _) (⟨wx.heap.size, rfl, hnew, by have := hw.size; have := zsz.out; omega⟩)
    refine Inv.Steps.go (by decide) (by rfl) (fun σ wx hw hd K hK => ?_) ?_
    · obtain ⟨o23, z23⟩ : wx.ownsRow w.heap.size 32 3 (σ 23) se.length (row se) ∧ (∀ b, Value.ownBlock (σ 23) = some b → wx.heap[b]? ≠ some (.cells #[.int .i64 0, .int .i64 0, .int .i64 0] 32 (0, 0))) := hd 6 (some 23) (by kernel_rfl) (by rfl)
      simp only [List.getElem_toArray, List.getElem_cons_zero, List.getElem_cons_succ, Act.put, List.setIfInBounds_toArray, List.set_cons_zero, List.set_cons_succ] at hK ⊢
      go_simp
      exact hK.out _ _ hw (Below.refl _ _) (⟨o23, z23⟩)
    exact Inv.Steps.nil
  · intro σ wx hw hd
    obtain e24 : (σ 24) = .agg #[.int .i64 on, .int .i64 off, .int .i64 pk] := hd 7 (some 24) (by rfl) (by rfl)
    obtain ⟨g7, e7, h7, q7⟩ : ∃ g_, (σ 7) = .pointer (some ⟨g_, 0, none⟩) ∧ wx.heap[g_]? = some (.cells #[.int .i64 0, .int .i64 0, .int .i64 0] 32 (0, 0)) ∧ w.heap.size + 1 ≤ g_ := hd 8 (some 7) (by rfl) (by rfl)
    obtain ⟨o6, z6⟩ : wx.ownsRow w.heap.size 32 3 (σ 6) se.length (row se) ∧ (∀ b, Value.ownBlock (σ 6) = some b → wx.heap[b]? ≠ some (.cells #[.int .i64 0, .int .i64 0, .int .i64 0] 32 (0, 0))) := hd 9 (some 6) (by rfl) (by rfl)
    simp only [e7, e24]
    obtain ⟨y0, y1, y2⟩ := c3 h7
    obtain ⟨g0, g1, g2⟩ := f3 h7
    refine Inv.one (i := 10) (by decide) (by kernel_rfl) (by rfl) (fun K hK => ?_)
    simp only [List.getElem_toArray, List.getElem_cons_zero, List.getElem_cons_succ, Act.put, List.setIfInBounds_toArray, List.set_cons_zero, List.set_cons_succ] at hK ⊢
    go_simp
    refine hK.out _ _ (Inv.done (by kernel_rfl) (NoPanic.normal ?_))
    clear hK K
    have HT := Lib.hid (st3 h7 (.int .i64 on) (.int .i64 off) (.int .i64 pk))
    have W9 := Lib.hid ((((Buf.then_ YZ.out hw).setCell (p := ⟨g7, 0, none⟩) (by show w.heap.size ≤ g7; omega) (.int .i64 on)).setCell (p := ⟨g7, 1, none⟩) (by show w.heap.size ≤ g7; omega) (.int .i64 off)).setCell (p := ⟨g7, 2, none⟩) (by show w.heap.size ≤ g7; omega) (.int .i64 pk))
    have OW := own_kept (w' := ((wx.setCell ⟨g7, 0, none⟩ (.int .i64 on)).setCell ⟨g7, 1, none⟩ (.int .i64 off)).setCell ⟨g7, 2, none⟩ (.int .i64 pk)) o6 (fun b hb => by
      have hne : b ≠ g7 := fun e => z6 b hb (by rw [e]; exact h7)
      exact (Below.heap_setCell _ _ _ b hne).trans ((Below.heap_setCell _ _ _ b hne).trans (Below.heap_setCell _ _ _ b hne)))
    obtain ⟨va, vm, vc, ev, hm⟩ := own_letter OW
    have hvm : vm ≤ 1000 := by rw [hm.out]; omega
    rw [ev] at OW ⊢
    generalize ((wx.setCell ⟨g7, 0, none⟩ (.int .i64 on)).setCell ⟨g7, 1, none⟩ (.int .i64 off)).setCell ⟨g7, 2, none⟩ (.int .i64 pk) = w9 at *
    replace OW := Lib.hid OW
    replace ev := Lib.hid ev
    clear h7 o6 z6 y0 y1 y2 g0 g1 g2 hw e7 e24 hd
    obtain ⟨y0, y1, y2⟩ := c3 HT.out
    by_cases ho : on < 0
    · have ho2 : ¬ 0 ≤ on := by omega
      go_wp2_with fail
      go_ret2
      refine ⟨⟨_, rfl, ?_⟩, W9.out⟩
      exact OW.out
    · have ho2 : 0 ≤ on := by omega
      have hsz : w.heap.size ≤ w9.heap.size := W9.out.size
      have m1 : Hid (se.length + 1 ≤ maxLen) := Lib.hid (by unfold maxLen; omega)
      have m2 : Hid ((se.length + 1) * 24 ≤ 140737488355328) := Lib.hid (by omega)
      go_upto_region 10 with (at_builtin; refine Tri.append3 rfl _ _ 38 rfl w.heap.size 32 _ i0 _ 24 Tryd.underlying38 hi hz0 hz1 hz2 rfl rfl OW.out hsz _ _ _ rfl rfl rfl rfl m1.out m2.out ?_; intro v' w11 hown' hg)
      have WA := Lib.hid ((Buf.then_ W9.out (new_block (.cells #[.int .i64 on, .int .i64 off, .int .i64 pk] 32))).grown hg (Nat.le_trans hsz (by simp)) (fun b hb => (OW.out.lt b hb).1))
      obtain ⟨va', vm', vc', ev', hm'⟩ := own_letter hown'
      have hvm' : vm' ≤ 1001 := by rw [hm'.out]; omega
      rw [ev'] at hown' ⊢
      replace ev' := Lib.hid ev'
      replace hown' := Lib.hid hown'
      clear hg y0 y1 y2
      go_wp2_with fail
      go_ret2
      refine ⟨⟨_, rfl, ?_⟩, WA.out⟩
      rw [row_snoc, List.length_append]
      exact hown'.out
end Det
end Go.Proofs.YtbmcmiggifknfaaDoor
