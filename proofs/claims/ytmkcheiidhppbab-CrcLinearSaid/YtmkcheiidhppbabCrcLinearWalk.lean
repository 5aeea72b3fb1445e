/- The walk of CrcLinear. -/
import Derived.Test.YtmkcheiidhppbabCrcFlip
namespace Go.Proofs.Ytmkcheiidhppbab
open Go.RowKit Crc
namespace Laws
/-- Byte i of a list is changed by a mask's byte. -/
def msk (l : List UInt8) (f : Nat → UInt8) : Nat → List UInt8
  | 0 => l
  | k + 1 => (msk l f k).set k ((msk l f k).getD k 0 ^^^ f k)
def mskW (f : Nat → UInt8) : Nat → Nat
  | 0 => 0
  | k + 1 => mskW f k ^^^ 2 ^ (8 * k) * (f k).toNat
theorem msk_succ (l : List UInt8) (f : Nat → UInt8) (k : Nat) : msk l f (k + 1) = (msk l f k).set k ((msk l f k).getD k 0 ^^^ f k) := rfl
theorem msk_length (l : List UInt8) (f : Nat → UInt8) (k : Nat) : (msk l f k).length = l.length := by
  induction k with
  | zero => rfl
  | succ k ih => rw [msk_succ, List.length_set, ih]
theorem msk_word (l : List UInt8) (f : Nat → UInt8) (k : Nat) (h : k ≤ l.length) : Cm.word (msk l f k) = Cm.word l ^^^ mskW f k := by
  induction k with
  | zero => simp [msk, mskW]
  | succ k ih =>
    have hl : k < (msk l f k).length := by rw [msk_length]; omega
    have hg : (msk l f k)[k]? = some ((msk l f k).getD k 0) := by simp [List.getD, hl]
    rw [msk_succ, Cm.word_set _ _ _ _ hg, ih (by omega), Nat.xor_assoc]; rfl
theorem mskW_xor (f g : Nat → UInt8) (k : Nat) : mskW (fun i => f i ^^^ g i) k = mskW f k ^^^ mskW g k := by
  induction k with
  | zero => simp [mskW]
  | succ k ih =>
    show mskW _ k ^^^ 2 ^ (8 * k) * (f k ^^^ g k).toNat = _
    rw [ih, UInt8.toNat_xor, Cm.mul_xor, Cm.xor_ac]; rfl
theorem sum_word (l : List UInt8) : Cm.updOf 0 l = (Cm.stN (8 * l.length) Cm.ones ^^^ Cm.ones) ^^^ Cm.stN (8 * l.length) (Cm.word l) := by
  unfold Cm.updOf
  rw [Nat.zero_xor, Cm.reg_word, Cm.stN_xor, Nat.xor_assoc, Nat.xor_comm (Cm.stN _ (Cm.word l)), ← Nat.xor_assoc]
theorem three (c s a b : Nat) : ((c ^^^ s) ^^^ (c ^^^ (s ^^^ a))) ^^^ (c ^^^ (s ^^^ b)) = c ^^^ (s ^^^ (a ^^^ b)) := by
  apply Nat.eq_of_testBit_eq
  intro i
  simp only [Nat.testBit_xor]
  cases c.testBit i <;> cases s.testBit i <;> cases a.testBit i <;> cases b.testBit i <;> rfl
theorem linear (l : List UInt8) (f g : Nat → UInt8) (k : Nat) (h : k ≤ l.length) : (Cm.updOf 0 l ^^^ Cm.updOf 0 (msk l f k)) ^^^ Cm.updOf 0 (msk l g k) = Cm.updOf 0 (msk l (fun i => f i ^^^ g i) k) := by
  rw [sum_word l, sum_word (msk l f k), sum_word (msk l g k), sum_word (msk l (fun i => f i ^^^ g i) k), msk_length, msk_length, msk_length, msk_word l f k h, msk_word l g k h, msk_word l _ k h, mskW_xor, Cm.stN_xor, Cm.stN_xor, Cm.stN_xor, Cm.stN_xor]
  exact three _ _ _ _
def shB (x m i : Nat) : UInt8 := UInt8.ofNat (x / 2 ^ (i % m))
theorem shB_toNat (x m i : Nat) : (shB x m i).toNat = x / 2 ^ (i % m) % 256 := by simp [shB]
theorem bx (a b : UInt8) : bits .xor .u8 (a.toNat : Int) (b.toNat : Int) = ((a ^^^ b).toNat : Int) := by
  rw [u8_x _ _ a.toNat_lt b.toNat_lt, UInt8.toNat_xor]
set_option maxHeartbeats 1600000 in
set_option maxRecDepth 100000 in
theorem crcLinear_walk (a0 : ByteArray) (a1 a2 : Int) (w0 : a0.size ≤ 140737488351232) (w1 : (Lit.int .u32 a1).wf = true) (w2 : (Lit.int .u32 a2).wf = true) (w : World) :
    Calls Try.prog 8 #[.string a0, .int .u32 a1, .int .u32 a2] w fun e w' => e = .returned (.bool true) ∧ Below w.heap.size w w' := by
  obtain ⟨u1, u1'⟩ := Ma.wf_u32 w1
  obtain ⟨u2, u2'⟩ := Ma.wf_u32 w2
  clear w1 w2
  by_cases hl : 200 < a0.size
  · go_enter Try.func8, Try.ntmps8
    go_wp2_with (go_at_call 16; refine (sane_any _).mono ?_; rintro e w1 ⟨rfl, hb⟩)
    go_ret
    exact ⟨rfl, hb⟩
  · obtain ⟨X, rfl⟩ := Int.eq_ofNat_of_zero_le u1
    obtain ⟨Y, rfl⟩ := Int.eq_ofNat_of_zero_le u2
    have hd : decide (200 < (a0.size : Int)) = false := by simp; omega
    go_enter Try.func8, Try.ntmps8
    go_wp2_with (refine Buf.wpList_bytes rfl _ 9 45 5 rfl Try.underlying9 Try.underlying45 Try.underlying5 a0 rfl (by unfold maxLen; omega) ?_; intro v1 w1 hown hbel)
    rename_i va wa hA bA vb wb hB bB K0 hK0
    have hA0 := Lib.hid hA
    have hB0 := Lib.hid hB
    have hA' := (hA.below bB).below hbel
    have hB' := hB.below hbel
    have hC' := hown
    have hw1 := Buf.then_ (Buf.then_ bA bB) hbel
    have sz1 := bA.size
    have sz2 := bB.size
    clear hA hB hown bA bB hbel
    go_loopw [11] (fun i wr => ∃ k : Nat, k ≤ a0.size ∧ i = .int .i64 k ∧ Buf.Own w.heap.size wr va (bvs (msk a0.data.toList (shB X 25) k)) ∧ Buf.Own wa.heap.size wr vb (bvs (msk a0.data.toList (shB Y 23) k)) ∧ Buf.Own wb.heap.size wr v1 (bvs (msk a0.data.toList (fun i => shB X 25 i ^^^ shB Y 23 i) k)) ∧ Below w.heap.size w wr) (fun i _ => a0.size - (intOf i).toNat)
    case atStart => exact ⟨0, Nat.zero_le _, rfl, hA', hB', hC', hw1⟩
    case round =>
      obtain ⟨k, hk, rfl, hA, hB, hC, hbw⟩ := hrel
      clear hA' hB' hC' hw1
      by_cases hlt : k < a0.size
      · have eP : ((X : Int) / 2 ^ (k % 25)) % 256 = ((shB X 25 k).toNat : Int) := by rw [shB_toNat]; simp
        have eQ : ((Y : Int) / 2 ^ (k % 23)) % 256 = ((shB Y 23 k).toNat : Int) := by rw [shB_toNat]; simp
        have EP := Lib.hid eP
        have EQ := Lib.hid eQ
        clear eP eQ
        have hlA : (bvs (msk a0.data.toList (shB X 25) k)).length = a0.size := by rw [bvs, List.length_map, msk_length]; simp
        have hlB : (bvs (msk a0.data.toList (shB Y 23) k)).length = a0.size := by rw [bvs, List.length_map, msk_length]; simp
        have hlC : (bvs (msk a0.data.toList (fun i => shB X 25 i ^^^ shB Y 23 i) k)).length = a0.size := by rw [bvs, List.length_map, msk_length]; simp
        obtain ⟨gA, cA, eA, bA1, _, cellA, freeA⟩ := hA.parts (by omega)
        obtain ⟨gB, cB, eB, bB1, _, cellB, freeB⟩ := hB.parts (by omega)
        obtain ⟨gC, cC, eC, bC1, _, cellC, freeC⟩ := hC.parts (by omega)
        rw [hlA] at eA
        rw [hlB] at eB
        rw [hlC] at eC
        subst eA eB eC
        have ltA := hA0.out.lt
        have ltB := hB0.out.lt
        obtain ⟨x, hx⟩ : ∃ x, x = (msk a0.data.toList (shB X 25) k).getD k 0 := ⟨_, rfl⟩
        obtain ⟨y, hy⟩ : ∃ y, y = (msk a0.data.toList (shB Y 23) k).getD k 0 := ⟨_, rfl⟩
        obtain ⟨z, hz⟩ : ∃ z, z = (msk a0.data.toList (fun i => shB X 25 i ^^^ shB Y 23 i) k).getD k 0 := ⟨_, rfl⟩
        have lA : k < (msk a0.data.toList (shB X 25) k).length := by rw [msk_length]; simp; omega
        have lB : k < (msk a0.data.toList (shB Y 23) k).length := by rw [msk_length]; simp; omega
        have lC : k < (msk a0.data.toList (fun i => shB X 25 i ^^^ shB Y 23 i) k).length := by rw [msk_length]; simp; omega
        have hcA : wr.cell? ⟨gA, k, none⟩ = some (.int .u8 (x.toNat : Int)) := by rw [cellA k (by omega), hx]; simp [bvs, List.getD, lA]
        have hcB : wr.cell? ⟨gB, k, none⟩ = some (.int .u8 (y.toNat : Int)) := by rw [cellB k (by omega), hy]; simp [bvs, List.getD, lB]
        have hcC : wr.cell? ⟨gC, k, none⟩ = some (.int .u8 (z.toNat : Int)) := by rw [cellC k (by omega), hz]; simp [bvs, List.getD, lC]
        have hfA := freeA k (by omega)
        have hfB := freeB k (by omega)
        have hfC := freeC k (by omega)
        have HX := Lib.hid hx
        have HY := Lib.hid hy
        have HZ := Lib.hid hz
        clear cellA cellB cellC freeA freeB freeC hlA hlB hlC hx hy hz lA lB lC
        have nAB : gA ≠ gB := by omega
        have nAC : gA ≠ gC := by omega
        have nBC : gB ≠ gC := by omega
        go_wp2_with fail
        rw [EP.out, EQ.out]
        have HP : Hid (shB X 25 k = shB X 25 k) := rfl
        obtain ⟨p, hp⟩ : ∃ p, p = shB X 25 k := ⟨_, rfl⟩
        obtain ⟨q, hq⟩ : ∃ q, q = shB Y 23 k := ⟨_, rfl⟩
        rw [← hp, ← hq]
        have Hp := Lib.hid hp
        have Hq := Lib.hid hq
        clear hp hq HP
        have x1 := bx x p
        have x2 := bx y q
        have x3 := bx z p
        have x4 := bx (z ^^^ p) q
        go_region
        go_wp2
        go_roundw
        case rel =>
          refine ⟨k + 1, by omega, by go_num, ?_, ?_, ?_, ?_⟩
          · rw [msk_succ, ← HX.out, ← Hp.out, ← bvs_set, UInt8.toNat_xor]
            exact (((hA.store k _).far nAB k _).far nAC k _).drew
          · rw [msk_succ, ← HY.out, ← Hq.out, ← bvs_set, UInt8.toNat_xor]
            exact (((hB.far nAB.symm k _).store k _).far nBC k _).drew
          · rw [msk_succ, ← HZ.out, ← Hp.out, ← Hq.out, ← bvs_set, ← UInt8.toNat_xor z p, x4, UInt8.xor_assoc]
            exact (((hC.far nAC.symm k _).far nBC.symm k _).store k _).drew
          · exact (((hbw.setCell bA1 _).setCell (Nat.le_trans sz1 bB1) _).setCell (Nat.le_trans sz1 (Nat.le_trans sz2 bC1)) _).drew
        case measure => simp [intOf]; omega
      · obtain rfl : k = a0.size := by omega
        have lin := linear a0.data.toList (shB X 25) (shB Y 23) a0.size (by simp)
        generalize hla : msk a0.data.toList (shB X 25) a0.size = la at hA lin
        generalize hlb : msk a0.data.toList (shB Y 23) a0.size = lb at hB lin
        generalize hlc : msk a0.data.toList (fun i => shB X 25 i ^^^ shB Y 23 i) a0.size = lc at hC lin
        have na : la.length = a0.size := by rw [← hla, msk_length]; simp
        have nb : lb.length = a0.size := by rw [← hlb, msk_length]; simp
        have nc : lc.length = a0.size := by rw [← hlc, msk_length]; simp
        clear hla hlb hlc
        obtain ⟨xa, hxa⟩ : ∃ x : ByteArray, x = ⟨la.toArray⟩ := ⟨_, rfl⟩
        obtain ⟨xb, hxb⟩ : ∃ x : ByteArray, x = ⟨lb.toArray⟩ := ⟨_, rfl⟩
        obtain ⟨xc, hxc⟩ : ∃ x : ByteArray, x = ⟨lc.toArray⟩ := ⟨_, rfl⟩
        have qa : xa.data.toList = la := by rw [hxa]
        have qb : xb.data.toList = lb := by rw [hxb]
        have qc : xc.data.toList = lc := by rw [hxc]
        have za : xa.size ≤ 1000000 := by rw [Lib.size_eq, qa, na]; omega
        have zb : xb.size ≤ 1000000 := by rw [Lib.size_eq, qb, nb]; omega
        have zc : xc.size ≤ 1000000 := by rw [Lib.size_eq, qc, nc]; omega
        have CA : ∀ w', Below wr.heap.size wr w' → Sem.run Try.prog (convert 45 9 va) w' = .ok (.string xa) w' := fun w' h => by rw [hxa]; exact Buf.run_back la _ _ 5 Try.underlying45 Try.underlying5 Try.underlying9 (hA.below h)
        have CB : ∀ w', Below wr.heap.size wr w' → Sem.run Try.prog (convert 45 9 vb) w' = .ok (.string xb) w' := fun w' h => by rw [hxb]; exact Buf.run_back lb _ _ 5 Try.underlying45 Try.underlying5 Try.underlying9 (hB.below h)
        have CC : ∀ w', Below wr.heap.size wr w' → Sem.run Try.prog (convert 45 9 v1) w' = .ok (.string xc) w' := fun w' h => by rw [hxc]; exact Buf.run_back lc _ _ 5 Try.underlying45 Try.underlying5 Try.underlying9 (hC.below h)
        have HCA := Lib.hid CA
        have HCB := Lib.hid CB
        have HCC := Lib.hid CC
        clear CA CB CC
        rw [← qa, ← qb, ← qc] at lin
        have l0 := Cm.updOf_lt (show 0 < 4294967296 by decide) a0.data.toList
        have l1 := Cm.updOf_lt (show 0 < 4294967296 by decide) xa.data.toList
        have l2 := Cm.updOf_lt (show 0 < 4294967296 by decide) xb.data.toList
        have S0 := fun w => sum_any a0 w (by omega)
        have S1 := fun w => sum_any xa w za
        have S2 := fun w => sum_any xb w zb
        have S3 := fun w => sum_any xc w zc
        rw [← lin] at S3
        generalize Cm.updOf 0 a0.data.toList = n0 at S0 S3 l0
        generalize Cm.updOf 0 xa.data.toList = n1 at S1 S3 l1
        generalize Cm.updOf 0 xb.data.toList = n2 at S2 S3 l2
        have e1 : bits .xor .i64 (n0 : Int) (n1 : Int) = ((n0 ^^^ n1 : Nat) : Int) := Ma.xor_nat n0 n1 (by omega) (by omega)
        have e2 : bits .xor .i64 ((n0 ^^^ n1 : Nat) : Int) (n2 : Int) = (((n0 ^^^ n1) ^^^ n2 : Nat) : Int) := Ma.xor_nat _ n2 (by have := Cm.xor_lt l0 l1; omega) (by omega)
        obtain ⟨I0, h0⟩ : ∃ I : Int, I = (n0 : Int) := ⟨_, rfl⟩
        obtain ⟨I1, h1⟩ : ∃ I : Int, I = (n1 : Int) := ⟨_, rfl⟩
        obtain ⟨I2, h2⟩ : ∃ I : Int, I = (n2 : Int) := ⟨_, rfl⟩
        obtain ⟨I3, h3⟩ : ∃ I : Int, I = (((n0 ^^^ n1) ^^^ n2 : Nat) : Int) := ⟨_, rfl⟩
        obtain ⟨I4, h4⟩ : ∃ I : Int, I = ((n0 ^^^ n1 : Nat) : Int) := ⟨_, rfl⟩
        rw [← h0, ← h1, ← h4] at e1
        rw [← h4, ← h2, ← h3] at e2
        rw [← h0] at S0
        rw [← h1] at S1
        rw [← h2] at S2
        rw [← h3] at S3
        have S0 := Lib.hid S0
        have S1 := Lib.hid S1
        have S2 := Lib.hid S2
        have S3 := Lib.hid S3
        clear lin h0 h1 h2 h3 h4 l0 l1 l2 hxa hxb hxc qa qb qc na nb nc za zb zc
        go_wp2_with fail
        refine Buf.region_calm wr (by kernel_rfl) (by kernel_rfl) (Below.refl _ _) ?_
        repeat (go_big_quiet_step ((intro hC'; first | (go_at_call 21; first | (with_reducible exact Buf.calm hC' (S0.out _)) | (with_reducible exact Buf.calm hC' (S1.out _)) | (with_reducible exact Buf.calm hC' (S2.out _)) | (with_reducible exact Buf.calm hC' (S3.out _))) | (go_at_call 16; exact Buf.calm hC' (sane_any _)) | (rw [HCA.out _ hC']; exact ⟨rfl, rfl⟩) | (rw [HCB.out _ hC']; exact ⟨rfl, rfl⟩) | (rw [HCC.out _ hC']; exact ⟨rfl, rfl⟩) | rfl)))
        refine wpQuiet_nil ?_
        intro w9 hb9
        go_wp2
        go_ret
        exact ⟨rfl, Buf.then_ hbw hb9⟩
end Laws
end Go.Proofs.Ytmkcheiidhppbab
