/- Contracts of the reference of layer 6. -/
import Derived.Test.YtmkcheiidhppbabCrcFlip
namespace Go.Proofs.Ytmkcheiidhppbab
open Go.RowKit Crc
namespace Ref06
theorem in_yes (n lo hi : Int) (w : World) (h1 : lo ≤ n) (h2 : n ≤ hi) :
    Calls Try.prog 31 #[.int .i64 n, .int .i64 lo, .int .i64 hi] w fun e w' => e = .returned (.bool true) ∧ ∃ m, w' = w.drewN m := by
  go_enter Try.func31, Try.ntmps31
  go_wp2
  go_ret
  exact ⟨rfl, 0, rfl⟩
theorem in_no (n lo hi : Int) (w : World) (h : n < lo ∨ hi < n) :
    Calls Try.prog 31 #[.int .i64 n, .int .i64 lo, .int .i64 hi] w fun e w' => e = .returned (.bool false) ∧ ∃ m, w' = w.drewN m := by
  by_cases h1 : lo ≤ n
  · have h2 : ¬ n ≤ hi := by omega
    clear h
    go_enter Try.func31, Try.ntmps31
    go_wp2
    go_ret
    exact ⟨rfl, 0, rfl⟩
  · clear h
    go_enter Try.func31, Try.ntmps31
    go_wp2
    go_ret
    exact ⟨rfl, 0, rfl⟩
theorem x64 (a b : Nat) (ha : a < 4294967296) (hb : b < 4294967296) : bits .xor .i64 (a : Int) (b : Int) = ((a ^^^ b : Nat) : Int) := Ma.xor_nat a b (by omega) (by omega)
theorem x64P (a : Nat) (ha : a < 4294967296) : bits .xor .i64 (a : Int) 3988292384 = ((a ^^^ 3988292384 : Nat) : Int) := Ma.xor_nat a 3988292384 (by omega) (by decide)
theorem x64ones (a : Nat) (ha : a < 4294967296) : bits .xor .i64 (a : Int) 4294967295 = ((a ^^^ 4294967295 : Nat) : Int) := Ma.xor_nat a 4294967295 (by omega) (by decide)
theorem and1 (a : Nat) : bits .and .i64 (a : Int) 1 = ((a % 2 : Nat) : Int) := by
  have := Ma.and_mask (a : Int) 1 (by decide)
  exact this.trans (by simp)
set_option maxHeartbeats 800000 in
set_option maxRecDepth 100000 in
theorem run_any (x : Nat) (s : ByteArray) (w : World) (hx : x < 4294967296) (hs : s.size ≤ 1000000) :
    Calls Try.prog 32 #[.int .i64 x, .string s] w fun e w' => e = .returned (.int .i64 (Cm.reg x s.data.toList : Nat)) ∧ w' = w := by
  go_enter Try.func32, Try.ntmps32
  go_wp2_with fail
  go_loop [0, 5] (fun y i => ∃ k : Nat, k ≤ s.size ∧ i = .int .i64 k ∧ y = .int .i64 (Cm.reg x (s.data.toList.take k) : Nat)) (fun _ i => s.size - (intOf i).toNat)
  case atStart => exact ⟨0, Nat.zero_le _, rfl, rfl⟩
  case round =>
    obtain ⟨k, hk, rfl, rfl⟩ := hrel
    obtain ⟨y, hy⟩ : ∃ y, y = Cm.reg x (s.data.toList.take k) := ⟨_, rfl⟩
    have hyl : y < 4294967296 := by rw [hy]; exact Cm.reg_lt _ hx
    rw [← hy]
    have Hy := Lib.hid hy
    clear hy
    by_cases hlt : k < s.size
    · have hb8 : s[k].toNat < 256 := s[k].toNat_lt
      have e1 := x64 y s[k].toNat hyl (by omega)
      have hz : y ^^^ s[k].toNat < 4294967296 := Cm.xor_lt hyl (by omega)
      have HS : Hid (Cm.reg x (s.data.toList.take (k + 1)) = Cm.stN 8 (y ^^^ s[k].toNat)) := by
        show _ = _
        rw [take_snoc s k hlt, Cm.reg_snoc, ← Hy.out, Cm.upd_steps _ _ hb8]
      have hb9 : ((s[k]).toNat : Int) ≤ 255 := by omega
      go_wp2_with fail
      clear e1
      generalize y ^^^ s[k].toNat = z at hz HS ⊢
      go_loop [0, 6] (fun v j => ∃ n : Nat, n ≤ 8 ∧ j = .int .i64 n ∧ v = .int .i64 (Cm.stN n z : Nat)) (fun _ j => (8 - intOf j).toNat)
      case atStart => exact ⟨0, by omega, rfl, rfl⟩
      case round =>
        obtain ⟨n, hn, rfl, rfl⟩ := hrel
        by_cases hlt8 : n < 8
        · obtain ⟨v, hv⟩ : ∃ v, v = Cm.stN n z := ⟨_, rfl⟩
          rw [← hv]
          have hvl : v < 4294967296 := by rw [hv]; exact Cm.stN_lt n hz
          have Hv := Lib.hid hv
          clear hv
          have e1 := and1 v
          have e2 := x64P (v / 2) (by omega)
          have d2 : ((v / 2 : Nat) : Int) = (v : Int) / 2 := by omega
          rw [d2] at e2
          by_cases hodd : v % 2 = 1
          · rw [hodd] at e1
            have Ho := Lib.hid hodd
            clear hodd
            go_wp2
            go_round
            case rel => exact ⟨n + 1, by omega, by go_num, by rw [Cm.stN_succ, ← Hv.out, Cm.st_odd Ho.out]⟩
            case measure => simp [intOf]; omega
          · have hev : v % 2 = 0 := by omega
            rw [hev] at e1
            have Ho := Lib.hid hev
            clear hodd hev
            go_wp2
            go_round
            case rel => exact ⟨n + 1, by omega, by go_num, by rw [Cm.stN_succ, ← Hv.out, Cm.st_ev Ho.out, d2]⟩
            case measure => simp [intOf]; omega
        · obtain rfl : n = 8 := by omega
          go_wp2
          go_round
          case rel => exact ⟨k + 1, by omega, by go_num, by rw [HS.out]⟩
          case measure => simp [intOf]; omega
    · have HS : Hid (Cm.reg x s.data.toList = y) := by
        show _ = _
        rw [Hy.out, List.take_of_length_le (by simp; omega)]
      go_wp2
      go_ret
      exact ⟨ret1 (by rw [HS.out]), rfl⟩
theorem sum_any (s : ByteArray) (w : World) (hs : s.size ≤ 1000000) :
    Calls Try.prog 22 #[.string s] w fun e w' => e = .returned (.int .i64 (Cm.updOf 0 s.data.toList : Nat)) ∧ Below w.heap.size w w' := by
  obtain ⟨r, hr⟩ : ∃ r, r = Cm.reg 4294967295 s.data.toList := ⟨_, rfl⟩
  have hrl : r < 4294967296 := by rw [hr]; exact Cm.reg_lt _ (by decide)
  have C : Hid (∀ w, Calls Try.prog 32 #[.int .i64 4294967295, .string s] w fun e w' => e = .returned (.int .i64 (r : Nat)) ∧ w' = w) := by
    rw [hr]; exact fun w => run_any 4294967295 s w (by decide) hs
  have e1 := x64ones r hrl
  have H : Hid (Cm.updOf 0 s.data.toList = r ^^^ 4294967295) := by rw [hr]; rfl
  clear hr
  go_enter Try.func22, Try.ntmps22
  go_wp2_with (go_at_call 32; with_reducible refine (C.out _).mono ?_; rintro e w' ⟨rfl, rfl⟩)
  go_ret
  exact ⟨ret1 (by rw [H.out]), Below.refl _ _⟩
theorem update_bad (sum : Int) (s : ByteArray) (w : World) (h : sum < 0 ∨ 4294967295 < sum) :
    Calls Try.prog 18 #[.int .i64 sum, .string s] w fun e w' => e = .returned (.int .i64 0) ∧ Below w.heap.size w w' := by
  go_enter Try.func18, Try.ntmps18
  go_wp2_with (go_at_call 31; refine (in_no _ _ _ _ h).mono ?_; rintro e w' ⟨rfl, m', rfl⟩)
  go_ret
  exact ⟨rfl, Buf.below_drewN (Below.refl _ _) _⟩
theorem update_any (sum : Nat) (s : ByteArray) (w : World) (h : sum < 4294967296) (hs : s.size ≤ 1000000) :
    Calls Try.prog 18 #[.int .i64 sum, .string s] w fun e w' => e = .returned (.int .i64 (Cm.updOf sum s.data.toList : Nat)) ∧ Below w.heap.size w w' := by
  obtain ⟨r, hr⟩ : ∃ r, r = Cm.reg (sum ^^^ 4294967295) s.data.toList := ⟨_, rfl⟩
  have hrl : r < 4294967296 := by rw [hr]; exact Cm.reg_lt _ (Cm.xor_lt h (by decide))
  have C : Hid (∀ w, Calls Try.prog 32 #[.int .i64 (sum ^^^ 4294967295 : Nat), .string s] w fun e w' => e = .returned (.int .i64 (r : Nat)) ∧ w' = w) := by
    rw [hr]; exact fun w => run_any _ s w (Cm.xor_lt h (by decide)) hs
  have e1 := x64ones r hrl
  have e0 := x64ones sum h
  have H : Hid (Cm.updOf sum s.data.toList = r ^^^ 4294967295) := by rw [hr]; rfl
  have J : Hid (∀ w, Calls Try.prog 31 #[.int .i64 sum, .int .i64 0, .int .i64 4294967295] w fun e w' => e = .returned (.bool true) ∧ ∃ m, w' = w.drewN m) := fun w => in_yes _ _ _ w (by omega) (by omega)
  clear hr
  go_enter Try.func18, Try.ntmps18
  go_wp2_with (first | (go_at_call 31; with_reducible refine (J.out _).mono ?_; rintro e w' ⟨rfl, m', rfl⟩) | (go_at_call 32; with_reducible refine (C.out _).mono ?_; rintro e w' ⟨rfl, rfl⟩))
  go_ret
  exact ⟨ret1 (by rw [H.out]), Buf.below_drewN (Below.refl _ _) _⟩
theorem cells4 (A : Nat) (h : A < 4294967296) : #[Value.int .u8 ((A : Int) % 256), Value.int .u8 ((A : Int) / 256 % 256), Value.int .u8 ((A : Int) / 65536 % 256), Value.int .u8 ((A : Int) / 16777216)] = ((Ma.leTo A 4).map fun b => Value.int .u8 b.toNat).toArray := by
  have e3 : (A : Int) / 16777216 = (A : Int) / 16777216 % 256 := by omega
  rw [e3]
  simp [Ma.leTo, List.range_succ, Ma.by8_toNat]
def str4 (A : Nat) : ByteArray := Ma.cat ⟨#[]⟩ (Ma.leTo A 4)
theorem str4_list (A : Nat) : (str4 A).data.toList = Ma.leTo A 4 := by simp [str4, Ma.cat]
theorem str4_size (A : Nat) : (str4 A).size = 4 := by rw [Lib.size_eq, str4_list, Ma.leTo_length]
theorem str4_cat (s : ByteArray) (A : Nat) : s ++ str4 A = Ma.cat s (Ma.leTo A 4) := by
  have h : (s ++ str4 A).data.toList = (Ma.cat s (Ma.leTo A 4)).data.toList := by rw [Ma.cat_toList, ← str4_list]; simp
  have : (s ++ str4 A).data = (Ma.cat s (Ma.leTo A 4)).data := Array.toList_inj.1 h
  generalize s ++ str4 A = a at *
  generalize Ma.cat s (Ma.leTo A 4) = b at *
  cases a; cases b; simp_all
theorem append_any (s : ByteArray) (w : World) (hs : s.size ≤ 1000000) :
    Calls Try.prog 24 #[.string s] w fun e w' => e = .returned (.string (Ma.cat s (Ma.leTo (Cm.updOf 0 s.data.toList) 4))) ∧ Below w.heap.size w w' := by
  obtain ⟨n, hn⟩ : ∃ n, n = Cm.updOf 0 s.data.toList := ⟨_, rfl⟩
  have hnl : n < 4294967296 := by rw [hn]; exact Cm.updOf_lt (by decide) _
  have C : Hid (∀ w, Calls Try.prog 22 #[.string s] w fun e w' => e = .returned (.int .i64 (n : Nat)) ∧ Below w.heap.size w w') := by
    rw [hn]; exact fun w => sum_any s w hs
  rw [← hn, ← str4_cat]
  clear hn
  have cA := Lib.hid (cells4 n hnl)
  have l4 := Lib.hid (str4_list n)
  have s4 := str4_size n
  have s4' : (str4 n).size ≤ 4 := by omega
  have S4 := Lib.hid s4
  clear s4
  generalize hx : str4 n = x at *
  clear hx
  have hn' : (n : Int) ≤ 4294967295 := by omega
  clear hnl
  go_enter Try.func24, Try.ntmps24
  go_wp2_with (first | (go_at_call 22; with_reducible refine (C.out _).mono ?_; rintro e w1 ⟨rfl, hb1⟩) | (refine Buf.wpList_back_lit rfl _ 45 9 5 rfl Try.underlying45 Try.underlying5 Try.underlying9 (Ma.leTo n 4) rfl (Ma.leTo_length n 4).symm rfl cA.out (by rw [Ma.leTo_length]; decide) x l4.out ?_))
  go_ret
  exact ⟨rfl, hb1.alloc hb1.size _⟩
theorem check_any (s : ByteArray) (w : World) (hs : s.size ≤ 1000000) :
    Calls Try.prog 26 #[.string s] w fun e w' => e = .returned (.bool (chk s.data.toList)) ∧ Below w.heap.size w w' := by
  by_cases h4 : s.size < 4
  · rw [chk_short (l := s.data.toList) (by simpa using h4)]
    have hd : decide (4 ≤ (s.size : Int)) = false := by simp; omega
    go_enter Try.func26, Try.ntmps26
    go_wp2_with fail
    go_ret
    exact ⟨rfl, Below.refl _ _⟩
  · have hsl : s.data.toList.length = s.size := by simp
    rw [chk_long (l := s.data.toList) (by omega), hsl]
    have A1 := Lib.hid (fun w => append_any (s.extract 0 (s.size - 4)) w (by simp; omega))
    go_enter Try.func26, Try.ntmps26
    go_wp2_with (go_at_call 24; with_reducible refine (A1.out _).mono ?_; rintro e w1 ⟨rfl, hb1⟩)
    go_ret
    refine ⟨retb ?_, hb1⟩
    rw [Lib.toList_data, Lib.toList_data, Ma.cat_toList, Lib.extract_data, List.drop_zero, Nat.sub_zero]
theorem flip_rng (s : ByteArray) (p n m : Int) (w : World) (h : n < 1 ∨ 32 < n ∨ p < 0 ∨ m < 0 ∨ 2 ^ n.toNat ≤ m) :
    Calls Try.prog 20 #[.string s, .int .i64 p, .int .i64 n, .int .i64 m] w fun e w' => e = .returned (.tuple #[.string ByteArray.empty, .int .i64 2]) ∧ ∃ m, w' = w.drewN m := by
  by_cases c1 : n < 1
  · clear h
    go_enter Try.func20, Try.ntmps20
    go_wp2_with (go_at_call 31; (first | refine (in_yes _ _ _ _ (by omega) (by omega)).mono ?_ | refine (in_no _ _ _ _ (by omega)).mono ?_); rintro e w' ⟨rfl, m', rfl⟩)
    go_ret2
    exact ⟨rfl, _, rfl⟩
  · by_cases c2 : 32 < n
    · clear h
      go_enter Try.func20, Try.ntmps20
      go_wp2_with (go_at_call 31; (first | refine (in_yes _ _ _ _ (by omega) (by omega)).mono ?_ | refine (in_no _ _ _ _ (by omega)).mono ?_); rintro e w' ⟨rfl, m', rfl⟩)
      go_ret2
      exact ⟨rfl, _, rfl⟩
    · by_cases c3 : p < 0
      · clear h
        go_enter Try.func20, Try.ntmps20
        go_wp2_with (go_at_call 31; (first | refine (in_yes _ _ _ _ (by omega) (by omega)).mono ?_ | refine (in_no _ _ _ _ (by omega)).mono ?_); rintro e w' ⟨rfl, m', rfl⟩)
        go_ret2
        exact ⟨rfl, _, rfl⟩
      · by_cases c4 : m < 0
        · clear h
          go_enter Try.func20, Try.ntmps20
          go_wp2_with (go_at_call 31; (first | refine (in_yes _ _ _ _ (by omega) (by omega)).mono ?_ | refine (in_no _ _ _ _ (by omega)).mono ?_); rintro e w' ⟨rfl, m', rfl⟩)
          go_ret2
          exact ⟨rfl, _, rfl⟩
        · have c5 : 2 ^ n.toNat ≤ m := by omega
          obtain ⟨p1, p2⟩ := Ma.pow_bd n.toNat 32 (by omega)
          have p2 : (2 : Int) ^ n.toNat ≤ 4294967296 := p2
          clear h
          go_enter Try.func20, Try.ntmps20
          go_wp2_with (go_at_call 31; (first | refine (in_yes _ _ _ _ (by omega) (by omega)).mono ?_ | refine (in_no _ _ _ _ (by omega)).mono ?_); rintro e w' ⟨rfl, m', rfl⟩)
          go_ret2
          exact ⟨rfl, _, rfl⟩
theorem flip_trunc (s : ByteArray) (p n m : Int) (w : World) (hs : s.size ≤ 1000000) (h1 : 1 ≤ n) (h2 : n ≤ 32) (h3 : 0 ≤ p) (h4 : 0 ≤ m) (h5 : m < 2 ^ n.toNat) (h : 8 * (s.size : Int) - n < p) :
    Calls Try.prog 20 #[.string s, .int .i64 p, .int .i64 n, .int .i64 m] w fun e w' => e = .returned (.tuple #[.string ByteArray.empty, .int .i64 4]) ∧ ∃ m, w' = w.drewN m := by
  obtain ⟨p1, p2⟩ := Ma.pow_bd n.toNat 32 (by omega)
  have p2 : (2 : Int) ^ n.toNat ≤ 4294967296 := p2
  go_enter Try.func20, Try.ntmps20
  go_wp2_with (go_at_call 31; (first | refine (in_yes _ _ _ _ (by omega) (by omega)).mono ?_ | refine (in_no _ _ _ _ (by omega)).mono ?_); rintro e w' ⟨rfl, m', rfl⟩)
  go_ret2
  exact ⟨rfl, _, rfl⟩
set_option maxHeartbeats 400000 in
set_option maxRecDepth 100000 in
theorem flip_ok (s : ByteArray) (p n : Nat) (m : Nat) (w : World) (hs : s.size ≤ 1000000) (h1 : 1 ≤ n) (h2 : n ≤ 32) (h5 : (m : Int) ≤ 2 ^ n - 1) (h : p + n ≤ 8 * s.size) :
    Calls Try.prog 20 #[.string s, .int .i64 p, .int .i64 n, .int .i64 m] w fun e w' => e = .returned (.tuple #[.string (flipS s p m n), .int .i64 0]) ∧ Below w.heap.size w w' := by
  obtain ⟨p1, p2⟩ := Ma.pow_bd n 32 (by omega)
  have p2 : (2 : Int) ^ n ≤ 4294967296 := p2
  have d1 : decide ((n : Int) < 1) = false := by simp; omega
  have d2 : decide (32 < (n : Int)) = false := by simp; omega
  have d3 : decide ((p : Int) < 0) = false := by simp
  have d4 : decide ((m : Int) < 0) = false := by simp
  have d5 : decide (2 ^ n ≤ (m : Int)) = false := by simp; omega
  have d6 : decide (8 * (s.size : Int) - n < p) = false := by simp; omega
  go_enter Try.func20, Try.ntmps20
  go_wp2_with (first | (go_at_call 31; (first | refine (in_yes _ _ _ _ (by omega) (by omega)).mono ?_ | refine (in_no _ _ _ _ (by omega)).mono ?_); rintro e w' ⟨rfl, m', rfl⟩) | (refine Buf.wpList_bytes rfl _ 9 45 5 rfl Try.underlying9 Try.underlying45 Try.underlying5 s rfl (by unfold maxLen; omega) ?_; intro v1 w1 hown hbel))
  have hown0 : Buf.Own w.heap.size w1 v1 (bvs (flips s.data.toList p m 0)) := hown
  replace hbel := Buf.of_drewN hbel
  have hl0 : (bvs (flips s.data.toList p m 0)).length = s.size := by rw [bvs, List.length_map, flips_length]; simp
  obtain ⟨g, cap, hv, hg1, _, _, _⟩ := hown0.parts (by omega)
  rw [hl0] at hv
  rw [hv] at hown0 ⊢
  clear hv hl0 hown
  go_loopw [11] (fun i wr => ∃ k : Nat, k ≤ n ∧ i = .int .i64 k ∧ Buf.Own w.heap.size wr (.slice (some ⟨g, 0, none⟩) s.size cap) (bvs (flips s.data.toList p m k)) ∧ Below w.heap.size w wr) (fun i _ => n - (intOf i).toNat)
  case atStart => exact ⟨0, by omega, rfl, hown0, hbel⟩
  case round =>
    obtain ⟨k, hk, rfl, hown, hb⟩ := hrel
    clear hown0
    have hlen : (bvs (flips s.data.toList p m k)).length = s.size := by rw [bvs, List.length_map, flips_length]; simp
    by_cases hlt : k < n
    · have e1 : bits .and .i64 ((m : Int) / 2 ^ k) 1 = ((m / 2 ^ k % 2 : Nat) : Int) := by
        have := Ma.and_mask ((m : Int) / 2 ^ k) 1 (by decide)
        refine this.trans ?_
        simp
      by_cases hbit : m / 2 ^ k % 2 = 1
      · rw [hbit] at e1
        have hq : (p + k) / 8 < (bvs (flips s.data.toList p m k)).length := by omega
        obtain ⟨g', cap', hv, _, _, hcell, hfree⟩ := hown.parts (by omega)
        injection hv with hv1 hv2 hv3
        injection hv1 with hv1
        injection hv1 with hv1
        subst hv1
        have hq' : (p + k) / 8 < (flips s.data.toList p m k).length := by rw [flips_length]; simp; omega
        obtain ⟨b, hbb⟩ : ∃ b, b = (flips s.data.toList p m k).getD ((p + k) / 8) 0 := ⟨_, rfl⟩
        have hc : wr.cell? ⟨g, (p + k) / 8, none⟩ = some (.int .u8 (b.toNat : Int)) := by
          rw [hcell _ hq, hbb]; simp [bvs, List.getD, hq']
        have hf := hfree _ hq
        have e2 := xor_bit b ((p + k) % 8) (Nat.mod_lt _ (by decide))
        have HS : Hid (flips s.data.toList p m (k + 1) = (flips s.data.toList p m k).set ((p + k) / 8) (b ^^^ UInt8.ofNat (2 ^ ((p + k) % 8)))) := by
          show _ = _
          rw [flips_succ, if_pos hbit, hbb]; rfl
        clear hcell hfree hv2 hv3 hbb hq hq' hbit
        go_wp2
        go_roundw
        case rel => exact ⟨k + 1, by omega, by go_num, by rw [HS.out, ← bvs_set, UInt8.toNat_xor, ofNat_bit]; exact hown.store _ _, hb.setCell hg1 _⟩
        case measure => simp [intOf]; omega
      · have hz : m / 2 ^ k % 2 = 0 := by omega
        rw [hz] at e1
        have Hz := Lib.hid hz
        clear hbit hz
        go_wp2
        go_roundw
        case rel => exact ⟨k + 1, by omega, by go_num, by rw [flips_succ, if_neg (by rw [Hz.out]; decide)]; exact hown, hb⟩
        case measure => simp [intOf]; omega
    · obtain rfl : k = n := by omega
      go_wp2_with (refine Buf.wpList_back_as rfl _ 45 9 5 rfl Try.underlying45 Try.underlying5 Try.underlying9 rfl _ hown _ (flipS_list s p m _) ?_)
      go_ret2
      exact ⟨rfl, hb⟩
end Ref06
end Go.Proofs.Ytmkcheiidhppbab
