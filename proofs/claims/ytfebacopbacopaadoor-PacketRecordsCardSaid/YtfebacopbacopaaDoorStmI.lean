/- The builder; Encode. -/
import Derived.Test.YtfebacopbacopaaDoorStmH
import Derived.Lib.MinMax
set_option linter.unusedVariables false
set_option linter.unusedSimpArgs false
namespace Go.Proofs.YtfebacopbacopaaDoor
open Go.RowKit Dice Ri Rk Go.Shelf
namespace St
def Bld (B b : Nat) (m : List UInt8) (w : World) : Prop := Lib.IsBuilder 92 5 B b (Lib.byteCells m) w
theorem write_any (B b : Nat) (m s : List UInt8) (w : World) (h : Bld B b m w) (hm : m.length + s.length ≤ 100000) (hB : B ≤ w.heap.size) :
    Calls Tryd.prog 47 #[.pointer (some ⟨b, 0, none⟩), .string ⟨⟨s⟩⟩] w fun e w' => (∃ r, e = .returned r) ∧ Bld B b (m ++ s) w' ∧ Below B w w' := by
  have hl : (Lib.byteCells m).length = m.length := by simp [Lib.byteCells]
  have k := Any.Builder_WriteString { NtxR.lays with } extraR B b (Lib.byteCells m) ⟨⟨s⟩⟩ w h (by rw [hl]; show m.length + s.length ≤ _; omega) hB
  refine Calls.mono k ?_
  rintro e w' ⟨he, hb, hw⟩
  refine ⟨⟨_, he⟩, .inr ?_, hw⟩
  have e2 : Lib.byteCells m ++ Lib.strCells ⟨⟨s⟩⟩ = Lib.byteCells (m ++ s) := by simp [Lib.byteCells, Lib.strCells]
  rw [← e2]; exact hb
theorem string_any (B b : Nat) (m : List UInt8) (w : World) (h : Bld B b m w) (hB : B ≤ w.heap.size) :
    Calls Tryd.prog 49 #[.pointer (some ⟨b, 0, none⟩)] w fun e w' => e = .returned (.string ⟨⟨m⟩⟩) ∧ Below B w w' := by
  have k := Any.Builder_String_any { NtxR.lays with } extraR B b m w h hB
  exact Calls.mono k fun e w' h => h
theorem Bld.below {B b : Nat} {m : List UInt8} {w w' : World} (h : Bld B b m w) (hb : Below w.heap.size w w') : Bld B b m w' := by
  rcases h with ⟨h1, v, h2, h3, h4⟩ | ⟨h1, v, h2, h3, h4⟩
  · exact .inl ⟨h1, v, hb_ hb h2, own_below h3 hb, h4⟩
  · exact .inr ⟨h1, v, hb_ hb h2, own_below h3 hb, h4⟩
theorem row_w {w : World} {B : Nat} {v : Value} {l : List (Nat × Int)} (h : Wds w B v l) : ∃ a c, v = .slice a l.length c ∧ RoW w a l.length c l := by
  rcases h.2 with ⟨rfl, h0⟩ | ⟨g, cap, cur, rfl, hB, hg, hc, hm, hs, ht⟩
  · exact ⟨none, 0, by rw [h0], ⟨rfl, by omega, fun h => by omega⟩⟩
  · refine ⟨_, cap, rfl, ⟨rfl, hc, fun h0 => ⟨g, 0, rfl, (Array.getElem?_eq_some_iff.1 hg).1, fun j p hp => ?_⟩⟩⟩
    have hcell : ∀ i u, (cellsW l)[i]? = some u → w.cell? ⟨g, i, none⟩ = some u := fun i u hu => by
      refine (cell_of_row w g i _ _ _ hg).trans ?_
      rw [← ht, List.getElem?_take] at hu
      split at hu
      · simpa using hu
      · cases hu
    obtain ⟨g1, g2⟩ := cellsW_get l j p hp
    rw [Nat.zero_add]
    exact ⟨hcell _ _ g1, hcell _ _ g2⟩
theorem RoW.kept {w w' : World} {a : Option Addr} {n c : Nat} {l : List (Nat × Int)} (h : RoW w a n c l) (hb : ∀ g o, a = some ⟨g, o, none⟩ → 0 < n → w'.heap[g]? = w.heap[g]?) (hs : w.heap.size ≤ w'.heap.size) : RoW w' a n c l :=
  ⟨h.len, h.nc, fun h0 => by
    obtain ⟨g, o, e, hg, hc⟩ := h.at_ h0
    exact ⟨g, o, e, Nat.lt_of_lt_of_le hg hs, fun j p hp => ⟨(World.cell?_of_block (a := ⟨g, _, none⟩) (hb g o e h0)).trans (hc j p hp).1, (World.cell?_of_block (a := ⟨g, _, none⟩) (hb g o e h0)).trans (hc j p hp).2⟩⟩⟩
theorem RoW.drop {w : World} {a : Option Addr} {n c : Nat} {l : List (Nat × Int)} (h : RoW w a n c l) (k : Nat) (hk : k ≤ n) (a' : Option Addr) (ha : ∀ g o, a = some ⟨g, o, none⟩ → k < n → a' = some ⟨g, o + k * 2, none⟩) : RoW w a' (n - k) (c - k) (l.drop k) :=
  ⟨by rw [List.length_drop, ← h.len], by have := h.nc; omega, fun h0 => by
    obtain ⟨g, o, e, hg, hc⟩ := h.at_ (by omega)
    refine ⟨g, o + k * 2, ha g o e (by omega), hg, fun j p hp => ?_⟩
    rw [List.getElem?_drop] at hp
    have := hc (k + j) p hp
    rw [show o + k * 2 + j * 2 = o + (k + j) * 2 by omega]
    exact this⟩
theorem allw_snoc (n : Nat) : ∀ ws, allw (n + 1) ws = allw n ws ++ fw ((ws.drop (15 * n)).take 15) := by
  induction n with
  | zero => intro ws; simp [allw]
  | succ n ih =>
    intro ws
    have := ih (ws.drop 15)
    simp only [allw] at this ⊢
    rw [this, List.append_assoc, List.drop_drop, show 15 * (n + 1) = 15 + 15 * n by omega]
/-- What Encode writes. -/
def ew (L : List Int) : List (Nat × Int) := (0, L.getD 0 0 % 4294967296) :: (0, L.getD (L.length - 1) 0 % 4294967296) :: wds (df L)
def enc (L : List Int) : List UInt8 := bys (allw (fo (wds (df L)).length) (ew L))
theorem ew_ok (L : List Int) : ∀ p ∈ ew L, WOk p := fun p hp => by
  unfold ew at hp
  rcases List.mem_cons.1 hp with rfl | hp
  · exact ⟨by simp, by simp; omega, by simp; omega⟩
  · rcases List.mem_cons.1 hp with rfl | hp
    · exact ⟨by simp, by simp; omega, by simp; omega⟩
    · exact wds_ok _ p hp
set_option maxHeartbeats 8000000 in
set_option maxRecDepth 100000 in
theorem encode_any {w : World} {a : Option Addr} {n c : Nat} {L : List Int} (h : Ro w a n c L) (h1 : 1 ≤ n) (h9 : n ≤ 1000) (hL : InS L) (hf : fo (wds (df L)).length ≤ 8) :
    Calls Tryd.prog 27 #[.slice a n c] w fun e w' => e = .returned (.tuple #[.string ⟨⟨enc L⟩⟩, .int .i64 0]) ∧ Below w.heap.size w w' := by
  have IR := Lib.hid (inRange_any h hL)
  have DW := Lib.hid (dataWords_any h (by omega) hL)
  have hLn := h.len
  have hkl := (wds_len (df L)).1
  rw [df_length, ← hLn] at hkl
  have hk1 := (wds_len (df L)).2
  rw [df_length, ← hLn] at hk1
  have EO := Lib.hid (ew_ok L)
  have i0 : -1073741823 ≤ L.getD 0 0 ∧ L.getD 0 0 ≤ 1073741823 := hL _ (by rw [List.getD_eq_getElem?_getD, List.getElem?_eq_getElem (by omega)]; exact List.getElem_mem _)
  have i1 : -1073741823 ≤ L.getD (L.length - 1) 0 ∧ L.getD (L.length - 1) 0 ≤ 1073741823 := hL _ (by rw [List.getD_eq_getElem?_getD, List.getElem?_eq_getElem (by omega)]; exact List.getElem_mem _)
  have henc : enc L = bys (allw (fo (wds (df L)).length) (ew L)) := rfl
  have hew : ew L = (0, L.getD 0 0 % 4294967296) :: (0, L.getD (L.length - 1) 0 % 4294967296) :: wds (df L) := rfl
  have H := Lib.hid h
  obtain ⟨g, o, rfl⟩ := h.form (by omega)
  have cx0 := Lib.hid fun w' (b : Below w.heap.size w w') => (H.out.below b).cell 0 (by omega)
  have cx1 := Lib.hid fun w' (b : Below w.heap.size w w') => (H.out.below b).cell (n - 1) (by omega)
  rw [Nat.add_zero] at cx0
  rw [← hLn] at i1 hew
  obtain ⟨jn, hjn⟩ : ∃ j, j = n - 1 := ⟨_, rfl⟩
  rw [← hjn] at cx1 i1 hew
  have ejn : (n : Int) - 1 = (jn : Int) := by omega
  have jnn : (jn : Int) < n := by omega
  replace hjn := Lib.hid hjn
  generalize L.getD 0 0 = x0 at *
  generalize L.getD jn 0 = x1 at *
  generalize wds (df L) = ws at *
  generalize ew L = es at *
  obtain ⟨k, hk⟩ : ∃ k, k = ws.length := ⟨_, rfl⟩
  rw [← hk] at hf hkl hk1 henc
  have FO := Lib.hid (framesOf_any k (by omega))
  obtain ⟨F, hF⟩ : ∃ F, F = fo k := ⟨_, rfl⟩
  rw [← hF] at FO hf henc
  obtain ⟨m, hm⟩ : ∃ m, m = enc L := ⟨_, rfl⟩
  rw [← hm] at henc ⊢
  have eF : (F : Int) ≤ 8 := by omega
  have hn0 : ((n : Int) == 0) = false := by rw [beq_eq_false_iff_ne]; omega
  have W0 : Hid (∀ w', Calls Tryd.prog 46 #[.int .i64 x0, .int .i64 32] w' fun e w'' => e = .returned (.tuple #[.int .i64 (x0 % 4294967296), .int .i64 0]) ∧ ∃ m, w'' = w'.drewN m) := Lib.hid fun w' => Bits.wrap_yes x0 32 w' (by omega) (by omega) (by show -2147483648 ≤ x0; omega) (by show x0 < 2147483648; omega)
  have W1 : Hid (∀ w', Calls Tryd.prog 46 #[.int .i64 x1, .int .i64 32] w' fun e w'' => e = .returned (.tuple #[.int .i64 (x1 % 4294967296), .int .i64 0]) ∧ ∃ m, w'' = w'.drewN m) := Lib.hid fun w' => Bits.wrap_yes x1 32 w' (by omega) (by omega) (by show -2147483648 ≤ x1; omega) (by show x1 < 2147483648; omega)
  obtain ⟨f, hff⟩ : ∃ f, f = x0 % 4294967296 := ⟨_, rfl⟩
  obtain ⟨t, htt⟩ : ∃ t, t = x1 % 4294967296 := ⟨_, rfl⟩
  rw [← hff] at W0 hew
  rw [← htt] at W1 hew
  have hnc := h.nc
  have hcc := h.cap
  replace hm := Lib.hid hm
  replace henc := Lib.hid henc
  replace hF := Lib.hid hF
  replace hk := Lib.hid hk
  replace hff := Lib.hid hff
  replace htt := Lib.hid htt
  replace hew := Lib.hid hew
  replace hLn := Lib.hid hLn
  clear h H hL
  go_enter Tryd.func27, Tryd.ntmps27
  go_wp2_with fail
  with_reducible refine IR.out.mono ?_
  rintro e w1 ⟨rfl, hw⟩
  replace hw := hw.symm
  subst hw
  go_wp2_with fail
  with_reducible refine DW.out.mono ?_
  rintro e w2 ⟨⟨v, rfl, O⟩, hb⟩
  obtain ⟨b, d, rfl, RW⟩ := row_w O
  have B2 := Lib.hid hb
  rw [← hk.out] at RW
  replace RW := Lib.hid RW
  replace O := Lib.hid O
  clear hb DW IR
  obtain ⟨vw, hvw⟩ : ∃ vw, vw = Value.slice b ws.length d := ⟨_, rfl⟩
  rw [← hk.out]
  go_wp2_with fail
  with_reducible refine (FO.out _).mono ?_
  rintro e w3 ⟨rfl, hw⟩
  replace hw := hw.symm
  subst hw
  have k0 := cx0.out _ B2.out
  go_wp2_with fail
  with_reducible refine (W0.out _).mono ?_
  rintro e w3 ⟨rfl, hm3⟩
  have b3 := bel_drew hm3
  have B3 := Lib.hid (Buf.then_ B2.out b3)
  replace O := Lib.hid (own_below O.out b3)
  clear hm3 b3 k0 RW
  have k1 := cx1.out _ B3.out
  go_wp2_with fail
  with_reducible refine (W1.out _).mono ?_
  rintro e w4 ⟨rfl, hm3⟩
  have b3 := bel_drew hm3
  have B4 := Lib.hid (Buf.then_ B3.out b3)
  replace O := Lib.hid (own_below O.out b3)
  clear hm3 b3 k1 B2 B3 W0 W1 cx0 cx1 FO
  obtain ⟨i0_, hi, hz0, hz1, hz2⟩ : ∃ i, Tryd.prog.info? 89 = some i ∧ i.zero = some (.agg #[.int .i64 0, .int .i64 0]) ∧ i.size = 2 ∧ i.bytes = 16 := ⟨_, rfl, by kernel_rfl, by kernel_rfl, by kernel_rfl⟩
  have OB := own_below O.out (new_block (.cells #[.int .i64 0, .int .i64 f, .int .i64 0, .int .i64 t] 89))
  have HN := heap_alloc_new w4 (.cells #[.int .i64 0, .int .i64 f, .int .i64 0, .int .i64 t] 89)
  have B5 := Lib.hid (Buf.then_ B4.out (new_block (.cells #[.int .i64 0, .int .i64 f, .int .i64 0, .int .i64 t] 89)))
  obtain ⟨w5, hw5⟩ : ∃ w5, w5 = w4.alloc (.cells #[.int .i64 0, .int .i64 f, .int .i64 0, .int .i64 t] 89) := ⟨_, rfl⟩
  obtain ⟨q, hq⟩ : ∃ q, q = w4.heap.size := ⟨_, rfl⟩
  have hqs : Hid (w5.heap.size = q + 1) := Lib.hid (by rw [hw5, hq]; exact Array.size_push ..)
  rw [← hw5] at OB HN B5
  rw [← hq] at HN
  obtain ⟨gw, hb5, hcells⟩ : ∃ gw, b = some ⟨gw, 0, none⟩ ∧ ∀ j u, (cellsW ws)[j]? = some u → w5.cell? ((⟨gw, 0, none⟩ : Addr).add j) = some u := by
    rcases OB.2 with ⟨e, h0⟩ | ⟨gw, cap, cur, e, hB, hg, hc, hm', hs, ht⟩
    · have := hk.out; omega
    · injection e with e1 e2 e3
      refine ⟨gw, e1, fun j u hu => ?_⟩
      have e4 : ((⟨gw, 0, none⟩ : Addr).add j) = ⟨gw, j, none⟩ := by
        unfold Addr.add; split
        · rename_i h; rw [h]
        · simp
      rw [e4]
      refine (cell_of_row w5 gw j _ _ _ hg).trans ?_
      rw [← ht, List.getElem?_take] at hu
      split at hu
      · simpa using hu
      · cases hu
  subst hb5
  have OW : Hid (w5.ownsRow q 89 2 (.slice (some ⟨q, 0, none⟩) 2 2) 2 [.int .i64 0, .int .i64 f, .int .i64 0, .int .i64 t]) := Lib.hid ⟨rfl, .inr ⟨q, 2, _, rfl, Nat.le_refl _, HN, Nat.le_refl _, by unfold maxLen; omega, rfl, rfl⟩⟩
  have one : Hid (∀ u ∈ cellsW ws, u.oneCell' = true) := Lib.hid fun u hu => by
    unfold cellsW at hu
    obtain ⟨p, _, hp⟩ := List.mem_flatMap.1 hu
    simp at hp
    rcases hp with rfl | rfl <;> rfl
  have hcw : Hid ((cellsW ws).length = k * 2) := Lib.hid (by rw [cellsW_length, hk.out])
  replace hcells := Lib.hid hcells
  clear OB HN O
  replace hw5 := Lib.hid hw5
  replace hq := Lib.hid hq
  go_wp2_with (at_builtin; rw [← hq.out, ← hw5.out]; refine wpList_append_lies _ rfl (.tmp 46) (.tmp 47) 85 rfl q 89 i0_ (.agg #[.int .i64 0, .int .i64 0]) 2 16 Tryd.underlying85 hi hz0 hz1 hz2 rfl (by decide) _ 2 [.int .i64 0, .int .i64 f, .int .i64 0, .int .i64 t] rfl OW.out ⟨gw, 0, none⟩ k d (cellsW ws) rfl hcw.out hcells.out one.out (by omega) (by unfold maxLen; omega) (by omega) (by have := hqs.out; omega) _ rfl ?_; intro gq cq w6 O2 G2 hg2 hl2)
  have B6 : Hid (Below w.heap.size w w6) := Lib.hid (B5.out.trans ⟨G2.os, G2.tape, G2.output, G2.size, fun k hk => G2.block k (by have := B5.out.size; omega) (fun e => by have e3 : k = q := Option.some.inj e; have := B4.out.size; have := hq.out; omega)⟩)
  have E6 : Hid (Wds w6 q (.slice (some ⟨gq, 0, none⟩) (2 + k) cq) es) := Lib.hid (by
    unfold Wds
    have el : es.length = 2 + k := by rw [hew.out, hk.out]; simp; omega
    have ec : cellsW es = [.int .i64 0, .int .i64 f, .int .i64 0, .int .i64 t] ++ cellsW ws := by rw [hew.out]; simp [cellsW]
    rw [el, ec]; exact O2)
  clear O2 G2 hg2 OW one hcw hcells B4 B5
  obtain ⟨a6, c6, e6, R6⟩ := row_w E6.out
  have el : es.length = 2 + k := by rw [hew.out, hk.out]; simp; omega
  have ea : a6 = some ⟨gq, 0, none⟩ ∧ c6 = cq := by injection e6 with h1 h2 h3; exact ⟨h1.symm, h3.symm⟩
  obtain ⟨rfl, rfl⟩ := ea
  rw [el] at R6
  replace el := Lib.hid el
  obtain ⟨B, hB⟩ : ∃ B, B = w6.heap.size := ⟨_, rfl⟩
  obtain ⟨w7, hw7⟩ : ∃ w7, w7 = w6.alloc (.cells #[.pointer none, .slice none 0 0] 92) := ⟨_, rfl⟩
  have H7 : w7.heap[B]? = some (.cells #[.pointer none, .slice none 0 0] 92 (0, 0)) := by rw [hw7, hB]; exact heap_alloc_new w6 _
  have b7 : Below w6.heap.size w6 w7 := by rw [hw7]; exact new_block _
  have D7 : Hid (Bld B B [] w7) := Lib.hid (.inl ⟨Nat.le_refl _, _, H7, World.ownsRow_nil _ _ _ _, by intro h; cases h⟩)
  have B7 := Lib.hid (Buf.then_ B6.out b7)
  have R7 := Lib.hid (R6.below b7)
  have hBw : Hid (w.heap.size ≤ B) := Lib.hid (by rw [hB]; exact B6.out.size)
  have hB7 : Hid (B ≤ w7.heap.size) := Lib.hid (by rw [hB]; exact b7.size)
  have hgB : Hid (gq < B) := Lib.hid (by rw [hB]; exact hl2)
  rw [← hB, ← hw7]
  replace hB := Lib.hid hB
  replace hw7 := Lib.hid hw7
  clear H7 b7 R6 E6 e6 B6 hl2
  go_loopw [4, 50] (fun s4 s5 wr => ∃ (a : Option Addr) (m c i : Nat), s4 = .slice a m c ∧ i ≤ F ∧ m ≤ 1002 ∧ s5 = .int .i64 (i : Int) ∧ Hid (RoW wr a m c (es.drop (15 * i))) ∧ Hid (∀ g o, a = some ⟨g, o, none⟩ → 0 < m → g < B) ∧ Hid (Bld B B (bys (allw i es)) wr) ∧ Hid (Below w.heap.size w wr) ∧ Hid (B ≤ wr.heap.size)) (fun _ s5 _ => F - (intOf s5).toNat)
  case atStart => exact ⟨_, 2 + k, c6, 0, rfl, by omega, by omega, rfl, R7, Lib.hid (fun g o e _ => by have := Option.some.inj e; injection this with e1 _; have := hgB.out; omega), D7, B7, hB7⟩
  case round =>
    clear R7 D7 B7 hB7 hgB
    obtain ⟨a, m, c, i, rfl, hi, hm, rfl, R, HG, D, HB, HS⟩ := hrel
    have hnc := R.out.nc
    by_cases hif : i < F
    · have ii : (i : Int) < F := by omega
      obtain ⟨nn, hnn⟩ : ∃ nn, nn = min 15 m := ⟨_, rfl⟩
      have hmin : min (15 : Int) (m : Int) = (nn : Int) := by omega
      have n15 : nn ≤ 15 := by omega
      have nm : (nn : Int) ≤ m := by omega
      have nc : (nn : Int) ≤ c := by omega
      have FA := Lib.hid fun w' (hb : Below wr.heap.size wr w') => frame_any ((R.out.below hb).take nn (by omega)) n15 (fun p hp => EO.out p (List.mem_of_mem_drop (List.mem_of_mem_take hp)))
      have htk : (es.drop (15 * i)).take nn = (es.drop (15 * i)).take 15 := by
        by_cases h15 : 15 ≤ m
        · rw [show nn = 15 by omega]
        · have hl := R.out.len
          rw [List.take_of_length_le (by omega), List.take_of_length_le (by omega)]
      rw [htk] at FA
      have hsn := allw_snoc i es
      replace hnn := Lib.hid hnn
      replace hsn := Lib.hid hsn
      replace htk := Lib.hid htk
      go_wp2_with fail
      with_reducible refine (FA.out _ (Below.refl _ _)).mono ?_
      rintro e w8 ⟨rfl, hb⟩
      obtain ⟨S, hS⟩ : ∃ S, S = bys (fw ((es.drop (15 * i)).take 15)) := ⟨_, rfl⟩
      have hSl : S.length = 64 := by rw [hS, bys_length, fw_length _ (take15 _)]
      have hAl : (bys (allw i es)).length = 64 * i := by rw [bys_length, allw_length]; omega
      rw [← hS]
      have WR := Lib.hid (write_any B B (bys (allw i es)) S w8 (D.out.below hb) (by omega) (by have := HS.out; have := hb.size; omega))
      have hnew : Hid (bys (allw i es) ++ S = bys (allw (i + 1) es)) := Lib.hid (by rw [hsn.out, bys_append, hS])
      rw [hnew.out] at WR
      have R8 := Lib.hid (R.out.below hb)
      have B8 := Lib.hid (Buf.then_ HB.out hb)
      have S8 : Hid (B ≤ w8.heap.size) := Lib.hid (by have := HS.out; have := hb.size; omega)
      replace hS := Lib.hid hS
      clear hb FA hSl hAl R HB HS D
      go_wp2_with fail
      with_reducible refine WR.out.mono ?_
      rintro e w9 ⟨⟨r, rfl⟩, D9, hb⟩
      have D9' := Lib.hid D9
      have B9 : Hid (Below w.heap.size w w9) := Lib.hid (B8.out.trans (hb.mono hBw.out))
      have S9 : Hid (B ≤ w9.heap.size) := Lib.hid (Nat.le_trans S8.out hb.size)
      have R9 := R8.out.kept (w' := w9) (fun g o e h0 => hb.block g (HG.out g o e h0)) hb.size
      replace R9 := Lib.hid R9
      clear D9 hb WR R8 B8 S8
      go_wp2_with fail
      have hdr : (es.drop (15 * i)).drop nn = es.drop (15 * (i + 1)) := by
        rw [List.drop_drop]
        have hl := R9.out.len
        rw [List.length_drop] at hl
        have := hnn.out
        by_cases h15 : 15 ≤ m
        · rw [show nn = 15 by omega]; congr 1
        · rw [List.drop_eq_nil_of_le (by omega), List.drop_eq_nil_of_le (by omega)]
      have RD := R9.out.drop nn (by omega) (if c = nn then a else Option.map (fun x => x.add (nn * 2)) a) (fun g o e hq => by have := hnn.out; rw [if_neg (by omega), e]; exact add_some g o (nn * 2) (by omega))
      rw [hdr] at RD
      refine ⟨⟨_, m - nn, c - nn, i + 1, rfl, by omega, by omega, by go_num, Lib.hid RD, Lib.hid (fun g o e h0 => ?_), D9', B9, S9⟩, by simp [intOf]; omega⟩
      obtain ⟨g', o', e', _⟩ := R9.out.at_ (by omega)
      have hlt := HG.out g' o' e' (by omega)
      split at e
      · rw [e'] at e
        have := Option.some.inj e; injection this with e1 e2; omega
      · have := hnn.out
        rw [e', add_some _ _ _ (by omega)] at e
        have := Option.some.inj e; injection this with e1 e2; omega
    · obtain rfl : F = i := by omega
      have hnk : ¬ ((F : Int) < F) := by omega
      have SA := Lib.hid (string_any B B (bys (allw F es)) wr D.out HS.out)
      rw [← henc.out] at SA
      clear D R HG
      go_wp2_with fail
      with_reducible refine SA.out.mono ?_
      rintro e w8 ⟨rfl, hb⟩
      have B8 : Hid (Below w.heap.size w w8) := Lib.hid (HB.out.trans (hb.mono hBw.out))
      clear hb
      go_wp2_with fail
      go_ret2
      exact ⟨rfl, B8.out⟩
end St
end Go.Proofs.YtfebacopbacopaaDoor
