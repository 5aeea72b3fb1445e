/- Put and Get of the reference; a changed last sample. -/
import Derived.Test.YthdahfaejpjkhaaStmQ
import Derived.Test.YthdahfaejpjkhaaGet
set_option linter.unusedVariables false
set_option linter.unusedSimpArgs false
namespace Go.Proofs.Ythdahfaejpjkhaa
open Go.RowKit Bits
namespace St.R4
theorem in_yes (n lo hi : Int) (w : World) (h1 : lo ≤ n) (h2 : n ≤ hi) :
    Calls Try.prog 32 #[.int .i64 n, .int .i64 lo, .int .i64 hi] w fun e w' => e = .returned (.bool true) ∧ ∃ m, w' = w.drewN m := by
  go_enter Try.func32, Try.ntmps32
  go_wp2
  go_ret
  exact ⟨rfl, 0, rfl⟩
theorem in_no (n lo hi : Int) (w : World) (h : n < lo ∨ hi < n) :
    Calls Try.prog 32 #[.int .i64 n, .int .i64 lo, .int .i64 hi] w fun e w' => e = .returned (.bool false) ∧ ∃ m, w' = w.drewN m := by
  by_cases h1 : lo ≤ n
  · have h2 : ¬ n ≤ hi := by omega
    clear h
    go_enter Try.func32, Try.ntmps32
    go_wp2
    go_ret
    exact ⟨rfl, 0, rfl⟩
  · clear h
    go_enter Try.func32, Try.ntmps32
    go_wp2
    go_ret
    exact ⟨rfl, 0, rfl⟩
set_option maxHeartbeats 400000 in
set_option maxRecDepth 100000 in
theorem put_yes (s : ByteArray) (N : Int) (wd : Nat) (w : World) (hs : s.size ≤ 1000000) (h1 : 1 ≤ wd) (h7 : wd ≤ 7) (hN : 0 ≤ N) (hn : N < 2 ^ (8 * wd)) :
    Calls Try.prog 20 #[.string s,   .int .i64 N, .int .i64 wd] w fun e w' => e = .returned (.tuple #[.string (Ma.cat s (Ma.beTo N.toNat wd 0)), .int .i64 0]) ∧ Below w.heap.size w w' := by
  obtain ⟨p1, p2⟩ := Ma.pow_bd (8 * wd) 56 (by omega)
  have p2 : (2 : Int) ^ (8 * wd) ≤ 72057594037927936 := p2
  obtain ⟨i0, hi, hz0, hz1, hz2⟩ := info_parts infoB
  go_enter Try.func20, Try.ntmps20
  go_wp2_with (first | (go_at_call 32; refine (in_yes _ _ _ _ (by omega) (by omega)).mono ?_; rintro e w' ⟨rfl, m, rfl⟩) | (refine Buf.wpList_bytes rfl _ 9 55 5 rfl Try.underlying9 Try.underlying55 Try.underlying5 s rfl (by unfold maxLen; omega) ?_; intro v1 w1 hown hbel))
  have hb0 : Below w.heap.size w w1 := ⟨hbel.os, hbel.tape, hbel.output, hbel.size, hbel.block⟩
  have hown0 : Buf.Own w.heap.size w1 v1 (byteCells s) := hown
  clear hown hbel
  go_loopw [8, 9] (fun v i wr => ∃ j : Nat, j ≤ wd ∧ i = .int .i64 ((j : Int) - 1) ∧ Buf.Own w.heap.size wr v (byteCells s ++ bvs (Ma.beTo N.toNat wd j)) ∧ Below w.heap.size w wr) (fun _ i _ => (intOf i + 1).toNat)
  case atStart => exact ⟨wd, Nat.le_refl _, rfl, by rw [Ma.beTo_start]; simpa [bvs] using hown0, hb0⟩
  case round =>
    obtain ⟨j, hj, rfl, hown, hbel⟩ := hrel
    clear hown0 hb0
    by_cases hlt : 0 < j
    · obtain ⟨k, rfl⟩ : ∃ k, j = k + 1 := ⟨j - 1, by omega⟩
      have hsz := hbel.size
      have ek : ((k + 1 : Nat) : Int) - 1 = (k : Int) := by omega
      rw [ek]
      have H := Lib.hid ek
      clear ek
      have hb1 : IntKind.u8.wrap (N / 2 ^ (8 * k)) = ((Ma.by8 N.toNat k).toNat : Int) := by rw [IntKind.wrap_u8, Ma.by8_int N k hN]
      have hb2 : (N / 2 ^ (8 * k)) % 256 = ((Ma.by8 N.toNat k).toNat : Int) := by rw [Ma.by8_int N k hN]
      have hlen : (byteCells s ++ bvs (Ma.beTo N.toNat wd (k + 1))).length + 1 ≤ 1000010 := by
        rw [List.length_append, byteCells_length, bvs, List.length_map, Ma.beTo_length]; omega
      go_wp2_with (at_builtin; refine Buf.wpList_append_one rfl _ _ 55 rfl 5 _ i0 (.int .u8 0) 1 Try.underlying55 hi hz0 hz1 hz2 rfl rfl hown hbel hsz (.int .u8 ((Ma.by8 N.toNat k).toNat : Int)) rfl rfl (by unfold maxLen; omega) (by omega) ?_; intro v' w' hown' hb' _)
      go_roundw
      case rel => exact ⟨k, by omega, rfl, by rw [List.append_assoc] at hown'; rw [← Ma.beTo_step N.toNat wd k (by omega)]; simpa [bvs] using hown', hb'⟩
      case measure => simp [intOf]
    · obtain rfl : j = 0 := by omega
      rw [bvs_cat] at hown
      go_wp2_with (refine Buf.wpList_back rfl _ 55 9 5 rfl Try.underlying55 Try.underlying5 Try.underlying9 rfl _ hown ?_)
      go_ret2
      exact ⟨rfl, hbel⟩

set_option maxHeartbeats 400000 in
theorem get_ok (s : ByteArray) (p wd : Nat) (w : World) (hs : s.size ≤ 1000000) (h1 : 1 ≤ wd) (h7 : wd ≤ 7) (h : p + wd ≤ s.size) :
    Calls Try.prog 19 #[.string s, .int .i64 p, .int .i64 wd] w fun e w' => e = .returned (.tuple #[.int .i64 (Ma.gv ((s.data.toList.drop p).take wd) : Nat), .int .i64 0]) ∧ ∃ m, w' = w.drewN m := by
  go_enter Try.func19, Try.ntmps19
  go_wp2_with (go_at_call 32; (first | refine (in_yes _ _ _ _ (by omega) (by omega)).mono ?_ | refine (in_no _ _ _ _ (by omega)).mono ?_); rintro e w' ⟨rfl, m, rfl⟩)
  go_loop [8, 9] (fun n i => ∃ k : Nat, k ≤ wd ∧ i = .int .i64 k ∧ n = .int .i64 (Ma.gv ((s.data.toList.drop p).take k) : Nat)) (fun _ i => wd - (intOf i).toNat)
  case atStart => exact ⟨0, by omega, rfl, rfl⟩
  case round =>
    obtain ⟨k, hk, rfl, rfl⟩ := hrel
    by_cases hlt : k < wd
    · have hg := Ma.gv_lt6 ((s.data.toList.drop p).take k) (by have := List.length_take_le k (s.data.toList.drop p); omega)
      have hsn := Ma.gv_take s p k (by omega)
      obtain ⟨x, hx⟩ : ∃ x, x = Ma.gv ((s.data.toList.drop p).take k) := ⟨_, rfl⟩
      rw [← hx] at hg hsn ⊢
      have e1 := Ma.or_byte x (s[p + k]'(by omega)).toNat (by omega) (s[p + k]'(by omega)).toNat_lt
      have HS := Lib.hid hsn
      have hb8 : ((s[p + k]'(by omega)).toNat : Int) ≤ 255 := by have := (s[p + k]'(by omega)).toNat_lt; omega
      have hx1 : 0 ≤ (x : Int) * 256 := by omega
      have hx2 : (x : Int) * 256 ≤ 72057594037927936 := by omega
      clear hx hsn
      go_wp2
      go_round
      case rel => exact ⟨k + 1, by omega, by go_num, by rw [HS.out]; go_num⟩
      case measure => simp [intOf]; omega
    · obtain rfl : k = wd := by omega
      go_wp2
      go_ret2
      exact ⟨rfl, _, rfl⟩
end St.R4
namespace St
open Dice Ri Rk
/-- The last sample of an encoding, exchanged. -/
theorem enc_three (L : List Int) : ∃ h rest, (∀ y, bys (allw (fo (wds (df L)).length) (ewy L y)) = be4 h ++ (be4 (L.getD 0 0 % 4294967296) ++ be4 y) ++ rest) := by
  obtain ⟨h, rest, _, e⟩ := allw_two (fo (wds (df L)).length) (by unfold fo; omega) (wds (df L))
  refine ⟨h, bys rest, fun y => ?_⟩
  unfold ewy
  rw [e, bys3]
theorem three_get (h f y : Int) (rest : List UInt8) (h0 : 0 ≤ y) (h1 : y ≤ 4294967295) : ((Ma.gv ((((⟨⟨be4 h ++ (be4 f ++ be4 y) ++ rest⟩⟩ : ByteArray).data.toList.drop 8).take 4)) : Nat) : Int) = y := by
  have e : ((⟨⟨be4 h ++ (be4 f ++ be4 y) ++ rest⟩⟩ : ByteArray).data.toList.drop 8).take 4 = be4 y := by
    show ((be4 h ++ (be4 f ++ be4 y) ++ rest).drop 8).take 4 = be4 y
    rw [show be4 h ++ (be4 f ++ be4 y) ++ rest = (be4 h ++ be4 f) ++ (be4 y ++ rest) by simp, List.drop_left' (by simp [be4_length]), List.take_left' (by simp [be4_length])]
  rw [e, gv_be4 y h0 h1]
theorem three_put (h f y z : Int) (rest : List UInt8) :
    (⟨⟨be4 h ++ (be4 f ++ be4 y) ++ rest⟩⟩ : ByteArray).extract 0 8 ++ Ma.cat ByteArray.empty (be4 z) ++ (⟨⟨be4 h ++ (be4 f ++ be4 y) ++ rest⟩⟩ : ByteArray).extract 12 (be4 h ++ (be4 f ++ be4 y) ++ rest).length = ⟨⟨be4 h ++ (be4 f ++ be4 z) ++ rest⟩⟩ := by
  apply ByteArray.ext
  rw [ByteArray.data_append, ByteArray.data_append, ByteArray.data_extract, ByteArray.data_extract]
  apply Array.toList_inj.1
  have hl := be4_length
  have e1 : ((be4 h ++ (be4 f ++ be4 y) ++ rest).drop 0).take 8 = be4 h ++ be4 f := by
    rw [show be4 h ++ (be4 f ++ be4 y) ++ rest = (be4 h ++ be4 f) ++ (be4 y ++ rest) by simp, List.drop_zero, List.take_left' (by simp [hl])]
  have e2 : (be4 h ++ (be4 f ++ be4 y) ++ rest).drop 12 = rest := by
    rw [List.drop_left' (by simp [hl])]
  simp only [Array.toList_append, Array.toList_extract, Ma.cat_toList, List.extract_eq_take_drop]
  rw [e1, e2, List.take_of_length_le (by simp [hl]; omega), show ByteArray.empty.data.toList = [] from rfl]
  simp
/-- The bit that is changed. -/
theorem xor_ne (l by_ : Nat) (hl : l < 2 ^ 32) (hb : by_ < 2 ^ 32) : l ^^^ (by_ ||| 1) ≠ l ∧ l ^^^ (by_ ||| 1) < 2 ^ 32 := by
  constructor
  · intro h
    have h2 := congrArg (fun x => x.testBit 0) h
    simp only [Nat.testBit_xor, Nat.testBit_or] at h2
    have : Nat.testBit 1 0 = true := by decide
    rw [this] at h2
    cases h3 : l.testBit 0 <;> cases h4 : by_.testBit 0 <;> rw [h3, h4] at h2 <;> cases h2
  · exact Nat.xor_lt_two_pow hl (Nat.or_lt_two_pow hb (by decide))
theorem sg_inj {x y : Int} (h0 : 0 ≤ x ∧ x < 4294967296) (h1 : 0 ≤ y ∧ y < 4294967296) (h : Ma.sg x 2147483648 4294967296 = Ma.sg y 2147483648 4294967296) : x = y := by
  unfold Ma.sg at h
  split at h <;> split at h <;> omega
/-- The samples of the dice, as a row. -/
theorem sampled (n : Nat) (N : Int) (hN : N = (n : Int)) (n1 : 1 ≤ n) (n2 : n ≤ 100) {W w : World} {d : Nat} {a : Option Addr} {len cap : Nat} {zs : List Int} (h : Di W w d a len cap zs) :
    Calls Try.prog 10 #[.pointer (some ⟨d, 0, none⟩), .int .i64 N] w fun e w' => (∃ b m c L, e = .returned (.slice b m c) ∧ m = L.length ∧ Ro w' b m c L ∧ InS L ∧ 1 ≤ m ∧ m ≤ n ∧ (∀ g o, b = some ⟨g, o, none⟩ → w.heap.size ≤ g)) ∧ Dice.Left W w w' d a len cap zs := by
  subst hN
  refine (Sm.samples_any n n1 n2 h).mono ?_
  rintro e w' ⟨⟨v, L, rfl, O, hin, l1, l2⟩, hl⟩
  obtain ⟨b, m, c, rfl, R⟩ := ro_any O
  have hm := R.len
  subst hm
  refine ⟨⟨b, _, c, L, rfl, rfl, R, fun x hx => ?_, l1, l2, fun g o e => ?_⟩, hl⟩
  · obtain ⟨j, hj, e⟩ := List.getElem_of_mem hx
    have := hin j hj
    unfold Sm.fn at this
    rw [List.getD_eq_getElem?_getD, List.getElem?_eq_getElem hj] at this
    rw [← e]; exact this
  · subst e
    rcases O with ⟨e, _⟩ | ⟨g', c', e, hb⟩
    · cases e
    · injection e with e1 e2 e3
      have := Option.some.inj e1
      injection this with e4 _
      rw [e4]; exact hb.base
/-- append of a row that is only read, as one operation. -/
theorem wp_more {o : Oper} {a : Act} {K : Act → World → Prop} {Q : Exit → Act → World → Prop} {w : World} (s x : Operand)
    (ho : o.op = .call { callee := .builtin .append, args := #[s, x], argTypes := #[22, 22] }) (B : Nat) (u : Value) (M : List Int) (hs : a.eval s = u) (O : Buf.Own B w u (iv M)) (ad : Option Addr) (n c : Nat) (hx : a.eval x = .slice ad n c) {L : List Int} (R : Ro w ad n c L)
    (n1 : 1 ≤ n) (n9 : M.length + n ≤ 100000) (hB : B ≤ w.heap.size)
    (h : ∀ v' w', Buf.Own B w' v' (iv (M ++ L)) → Below B w w' → K (a.put o.dst v') w') : o.wp Try.prog a w K Q := by
  obtain ⟨i0, hi, hz0, hz1, hz2⟩ := info_parts infoI
  obtain ⟨g, f, rfl, hg, hc⟩ := R.at_ (by omega)
  have hl := R.len
  have hsrc : Src Try.prog 1 22 (.slice (some ⟨g, f, none⟩) n c) n (iv L) w := Src.ofSlice _ Try.underlying22 ⟨g, f, none⟩ n c (iv L) (by rw [iv_length]; omega) (fun q u hu => by
    rw [Addr.add_lit]
    unfold iv at hu
    rw [List.getElem?_map] at hu
    cases hq : L[q]? with
    | none => rw [hq] at hu; cases hu
    | some y => rw [hq] at hu; rw [hc q y hq]; exact hu) (fun u hu => by obtain ⟨x, _, rfl⟩ := List.mem_map.1 hu; rfl)
  obtain ⟨v', w', hrun, r1, r2⟩ := Buf.run_append (P := Try.prog) 22 22 o.type 3 i0 (.int .i64 0) 8 Try.underlying22 hi hz0 hz1 hz2 rfl O hB _ n (iv L) hsrc (by rw [iv_length]; unfold maxLen; omega) (by rw [iv_length]; omega)
  unfold Oper.wp
  simp [execOp, ho, resolve, invoke, builtin, hs, hx, hrun, Result.andThen]
  exact h v' w' (by simpa [iv] using r1) (Buf.below_grown (Below.refl _ _) O hB r2)
theorem wp_copy {o : Oper} {a : Act} {K : Act → World → Prop} {Q : Exit → Act → World → Prop} {w : World} (s x : Operand)
    (ho : o.op = .call { callee := .builtin .append, args := #[s, x], argTypes := #[22, 22] }) (B : Nat) (hs : a.eval s = .slice none 0 0) (ad : Option Addr) (n c : Nat) (hx : a.eval x = .slice ad n c) {L : List Int} (R : Ro w ad n c L)
    (n1 : 1 ≤ n) (n9 : n ≤ 100000) (hB : B ≤ w.heap.size)
    (h : ∀ v' w', Buf.Own B w' v' (iv L) → Below B w w' → K (a.put o.dst v') w') : o.wp Try.prog a w K Q :=
  wp_more s x ho B _ [] hs (Buf.Own.nil B w) ad n c hx R n1 (by simpa using n9) hB h
end St
end Go.Proofs.Ythdahfaejpjkhaa
