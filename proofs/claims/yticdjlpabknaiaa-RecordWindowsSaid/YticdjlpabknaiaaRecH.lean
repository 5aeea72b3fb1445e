/- Package record: part, Sub. -/
import Derived.Test.YticdjlpabknaiaaRecG
import Derived.Test.YticdjlpabknaiaaMidN
import Derived.Test.YticdjlpabknaiaaRes
set_option linter.unusedVariables false
set_option linter.unusedSimpArgs false
namespace Go.Proofs.Yticdjlpabknaiaa
open Go.RowKit
namespace Rec
open Dice
theorem keep_ne {w : World} {b g : Nat} {o : Obj} (h : w.heap[b]? = some o) (hne : b ≠ g) (i : Nat) (v : Value) : (w.setCell ⟨g, i, none⟩ v).heap[b]? = some o := (Below.heap_setCell w ⟨g, i, none⟩ v b hne).trans h
set_option maxHeartbeats 2000000 in
set_option maxRecDepth 100000 in
theorem clone_off {w : World} {b o n c : Nat} {ys : List Int} (hbs : b < w.heap.size) (h : ∀ j, j < ys.length → w.cell? ⟨b, o + j, none⟩ = some (.int .i64 (ys.getD j 0))) (hn : n = ys.length) (h1 : 1 ≤ n) (n9 : n ≤ 1000) :
    Calls Try.prog 50 #[.slice (some ⟨b, o, none⟩) n c] w fun e w' => (∃ g c', e = .returned (.slice (some ⟨g, 0, none⟩) n c') ∧ SR w' g ys ∧ n ≤ c' ∧ c' ≤ maxLen ∧ w.heap.size ≤ g) ∧ Below w.heap.size w w' := by
  obtain ⟨i0, hi, hz0, hz1, hz2⟩ : ∃ i, Try.prog.info? 3 = some i ∧ i.zero = some (.int .i64 0) ∧ i.size = 1 ∧ i.bytes = 8 := ⟨_, rfl, by kernel_rfl, by kernel_rfl, by kernel_rfl⟩
  have hnw : Hid (∀ j u, (ints ys)[j]? = some u → (w.alloc (.cells #[] 3)).cell? ((⟨b, o, none⟩ : Addr).add j) = some u) := Lib.hid (by
    intro j u hj
    have hlt : j < ys.length := by have := (List.getElem?_eq_some_iff.1 hj).1; simpa [ints] using this
    have h2 := (World.cell?_of_block (a := ⟨b, o + j, none⟩) ((new_block (w := w) (.cells #[] 3)).block b hbs)).trans (h j hlt)
    have e : u = .int .i64 (ys.getD j 0) := by
      simp only [ints, List.getElem?_map, List.getElem?_eq_getElem hlt, Option.map_some, Option.some.injEq] at hj
      rw [← hj]; simp [List.getD_eq_getElem?_getD, hlt]
    rw [e, Addr.add_lit]
    exact h2)
  have hll : Hid ((ints ys).length = n * 1) := Lib.hid (by simp [ints]; omega)
  have hon : Hid (∀ u ∈ ints ys, u.oneCell' = true) := Lib.hid (by intro u hu; simp [ints] at hu; obtain ⟨z, _, rfl⟩ := hu; rfl)
  have hlit : Hid ((w.alloc (.cells #[] 3)).ownsRow w.heap.size 3 1 (.slice (some ⟨w.heap.size, 0, none⟩) 0 0) 0 []) := Lib.hid (World.ownsRow_lit w #[] 0 (Nat.le_refl _) (by decide) rfl)
  have m1 : Hid (0 + n ≤ maxLen) := Lib.hid (by unfold maxLen; omega)
  have hsa : Hid ((w.alloc (.cells #[] 3)).heap.size = w.heap.size + 1) := Lib.hid (by simp)
  have qT : ∀ (w : World), (binOp .eql 22 (.slice (some ⟨b, o, none⟩) n c) (.slice none 0 0)).run Try.prog w = .ok (.bool false) w := fun w => Lib.run_eql_slice_nil w _ _ _ _ _ _ _ Try.underlying22
  replace hn := Lib.hid hn
  clear h
  go_enter Try.func50, Try.ntmps50
  go_wp2_with (at_builtin; refine wpList_append_lies _ rfl _ _ 22 rfl w.heap.size 3 i0 (.int .i64 0) 1 8 Try.underlying22 hi hz0 hz1 hz2 rfl (by decide) (.slice (some ⟨w.heap.size, 0, none⟩) 0 0) 0 [] rfl hlit.out ⟨b, o, none⟩ n c (ints ys) rfl hll.out hnw.out hon.out (by omega) m1.out (by omega) (by simp) _ rfl ?_; intro g10 c10 w10 hown hgrow hat hlt10)
  go_ret
  have B1 : Below w.heap.size w w10 := ((Below.refl _ w).alloc (Nat.le_refl _) _).grown hgrow (by rw [hsa.out]; omega) (fun k hk => by simp [Value.ownBlock] at hk; omega)
  rw [Nat.zero_add] at *
  obtain ⟨b2, c2, e2, hsr, h2, h9, h3⟩ := sr_own (xs := ys) (by simpa using hown) hn.out h1
  obtain ⟨rfl, rfl⟩ : g10 = b2 ∧ c10 = c2 := by injection e2 with p q r; injection p with p; injection p with p; exact ⟨p, r⟩
  exact ⟨⟨g10, c10, rfl, hsr, h2, h9, h3⟩, B1⟩
/-- The samples from k on, before m. -/
def cutl (xs : List Int) (k m : Nat) : List Int := (xs.drop k).take (m - k)
theorem cutl_len {xs : List Int} {k m : Nat} (h : k ≤ m) (h9 : m ≤ xs.length) : (cutl xs k m).length = m - k := by simp [cutl]; omega
theorem cutl_get {xs : List Int} {k m j : Nat} (hj : j < m - k) : (cutl xs k m).getD j 0 = xs.getD (k + j) 0 := by
  simp [cutl, List.getD_eq_getElem?_getD, List.getElem?_take, hj]
theorem cutl_cutl (xs : List Int) (k m : Nat) (f : Nat) (hk : k ≤ m) : cutl (cutl xs k m) f (m - k) = cutl xs (k + f) m := by
  simp only [cutl, List.drop_take, List.drop_drop, List.take_take]
  congr 1
  omega
theorem cutl_ok {xs : List Int} {k m : Nat} (h : ∀ x ∈ xs, -1073741823 ≤ x ∧ x ≤ 1073741823) : ∀ x ∈ cutl xs k m, -1073741823 ≤ x ∧ x ≤ 1073741823 := fun x hx => h x (List.mem_of_mem_drop (List.mem_of_mem_take hx))
section
variable {s0 s1 s2 s3 : List UInt8} {st fi num den er ru se : Int}
set_option maxHeartbeats 4000000 in
set_option maxRecDepth 100000 in
theorem part_any (P : RP s0 s1 s2 s3 st fi num den er ru se) {b n c : Nat} {xs : List Int} {w : World} (X : RX w b n c xs) (k m : Nat) (hk : k < m) (hm : m ≤ n) :
    Calls Try.prog 30 #[.agg #[.string ⟨s0.toArray⟩, .string ⟨s1.toArray⟩, .string ⟨s2.toArray⟩, .string ⟨s3.toArray⟩, .int .i64 st, .int .i64 fi, .int .i64 num, .int .i64 den, .int .i64 er, .int .i64 ru, .int .i64 se, .slice (some ⟨b, 0, none⟩) n c], .int .i64 (k : Int), .int .i64 (m : Int)] w fun e w' => (∃ g c2, e = .returned (.agg #[.string ⟨s0.toArray⟩, .string ⟨s1.toArray⟩, .string ⟨s2.toArray⟩, .string ⟨s3.toArray⟩, .int .i64 st, .int .i64 (fi + (k : Int)), .int .i64 num, .int .i64 den, .int .i64 er, .int .i64 ru, .int .i64 se, .slice (some ⟨g, 0, none⟩) ((m - k)) c2]) ∧ RX w' g (m - k) c2 (cutl xs k m) ∧ w.heap.size < g) ∧ Below w.heap.size w w' := by
  have f0 := P.fi0
  have f9 := P.fi9
  have n9 := X.h9
  have nc := X.hc
  have c9 := X.c9
  have lx := X.hn
  have km : (k : Int) < (m : Int) := by omega
  have mn : (m : Int) ≤ (n : Int) := by omega
  have k0 : (0 : Int) ≤ (k : Int) := by omega
  obtain ⟨fk, hfk⟩ : ∃ fk, fk = fi + (k : Int) := ⟨_, rfl⟩
  have wfk : IntKind.i64.wrap (fi + (k : Int)) = fk := by rw [hfk]; exact IntWalk.i64_in _ (by omega)
  have lc := cutl_len (xs := xs) (Nat.le_of_lt hk) (by omega)
  obtain ⟨w0, hw0e⟩ : ∃ w0, w0 = (w.alloc (.cells #[.string ⟨s0.toArray⟩, .string ⟨s1.toArray⟩, .string ⟨s2.toArray⟩, .string ⟨s3.toArray⟩, .int .i64 st, .int .i64 fi, .int .i64 num, .int .i64 den, .int .i64 er, .int .i64 ru, .int .i64 se, .slice (some ⟨b, 0, none⟩) n c] 32)).alloc (.cells #[.string ⟨#[]⟩, .string ⟨#[]⟩, .string ⟨#[]⟩, .string ⟨#[]⟩, .int .i64 0, .int .i64 0, .int .i64 0, .int .i64 0, .int .i64 0, .int .i64 0, .int .i64 0, .slice none 0 0] 32) := ⟨_, rfl⟩
  have eS : (w.alloc (.cells #[.string ⟨s0.toArray⟩, .string ⟨s1.toArray⟩, .string ⟨s2.toArray⟩, .string ⟨s3.toArray⟩, .int .i64 st, .int .i64 fi, .int .i64 num, .int .i64 den, .int .i64 er, .int .i64 ru, .int .i64 se, .slice (some ⟨b, 0, none⟩) n c] 32)).heap.size = w.heap.size + 1 := by simp
  have Y0 : Hid (Below w.heap.size w w0) := Lib.hid (by rw [hw0e]; exact (new_block _).alloc (by simp) _)
  have KA := Lib.hid (show w0.heap[w.heap.size]? = some (.cells #[.string ⟨s0.toArray⟩, .string ⟨s1.toArray⟩, .string ⟨s2.toArray⟩, .string ⟨s3.toArray⟩, .int .i64 st, .int .i64 fi, .int .i64 num, .int .i64 den, .int .i64 er, .int .i64 ru, .int .i64 se, .slice (some ⟨b, 0, none⟩) n c] 32 (0, 0)) by rw [hw0e]; exact (heap_alloc_old _ _ (by simp)).trans (heap_alloc_new w _))
  have KB := Lib.hid (show w0.heap[w.heap.size + 1]? = some (.cells #[.string ⟨#[]⟩, .string ⟨#[]⟩, .string ⟨#[]⟩, .string ⟨#[]⟩, .int .i64 0, .int .i64 0, .int .i64 0, .int .i64 0, .int .i64 0, .int .i64 0, .int .i64 0, .slice none 0 0] 32 (0, 0)) by rw [hw0e, ← eS]; exact heap_alloc_new _ _)
  have CO := Lib.hid fun (w' : World) (h' : Below w.heap.size w w') => clone_off (w := w') (b := b) (o := k) (n := m - k) (c := c - k) (ys := cutl xs k m) (Nat.lt_of_lt_of_le X.sr.1 h'.size) (fun j hj => by rw [lc] at hj; rw [cutl_get hj]; exact (X.keep h').sr.2 (k + j) (by omega)) lc.symm (by omega) (by omega)
  have OKc := Lib.hid (cutl_ok (k := k) (m := m) X.ok)
  rw [← hfk]
  replace hfk := Lib.hid hfk
  replace lc := Lib.hid lc
  replace lx := Lib.hid lx
  clear P X
  go_enter Try.func30, Try.ntmps30
  go_upto_region 1 with fail
  rw [← hw0e]
  clear hw0e eS
  obtain ⟨x0, x1, x2, x3, x4, x5, x6, x7, x8, x9, x10, x11⟩ := c12 KA.out
  obtain ⟨u0, u1, u2, u3, u4, u5, u6, u7, u8, u9, u10, u11⟩ := f12 KA.out
  have G1 := Lib.hid ((heap_setCell_same w0 w.heap.size 5 _ _ (.int .i64 fk) KA.out).trans (show _ = some (.cells #[.string ⟨s0.toArray⟩, .string ⟨s1.toArray⟩, .string ⟨s2.toArray⟩, .string ⟨s3.toArray⟩, .int .i64 st, .int .i64 fk, .int .i64 num, .int .i64 den, .int .i64 er, .int .i64 ru, .int .i64 se, .slice (some ⟨b, 0, none⟩) n c] 32 (0, 0)) from rfl))
  have Y1 := Lib.hid (Y0.out.setCell (p := ⟨w.heap.size, 5, none⟩) (Nat.le_refl _) (.int .i64 fk))
  have B1 := Lib.hid (keep_ne KB.out (show w.heap.size + 1 ≠ w.heap.size by omega) 5 (.int .i64 fk))
  go_upto_region 2 with fail
  generalize w0.setCell ⟨w.heap.size, 5, none⟩ (.int .i64 fk) = w1 at *
  clear KA KB Y0 x0 x1 x2 x3 x4 x5 x6 x7 x8 x9 x10 x11 u0 u1 u2 u3 u4 u5 u6 u7 u8 u9 u10 u11 wfk
  obtain ⟨x0, x1, x2, x3, x4, x5, x6, x7, x8, x9, x10, x11⟩ := c12 G1.out
  go_upto_region 3 with (go_at_call 50; with_reducible refine (CO.out _ Y1.out).mono ?_; rintro e w2 ⟨⟨g, c2, rfl, sr, hc2, hc9, hg2⟩, hc⟩; (have sz1 := (Array.getElem?_eq_some_iff.1 B1.out).1); (replace G1 := Lib.hid (hb hc G1.out)); (replace B1 := Lib.hid (hb hc B1.out)); (replace Y1 := Lib.hid (Buf.then_ Y1.out hc)); (clear hc x0 x1 x2 x3 x4 x5 x6 x7 x8 x9 x10 x11); (obtain ⟨u0, u1, u2, u3, u4, u5, u6, u7, u8, u9, u10, u11⟩ := f12 G1.out); (obtain ⟨x0, x1, x2, x3, x4, x5, x6, x7, x8, x9, x10, x11⟩ := c12 G1.out); (replace sr := Lib.hid sr))
  have G4 := Lib.hid (set12_11 G1.out (.slice (some ⟨g, 0, none⟩) (m - k) c2))
  have Y4 := Lib.hid (Y1.out.setCell (p := ⟨w.heap.size, 11, none⟩) (Nat.le_refl _) (.slice (some ⟨g, 0, none⟩) (m - k) c2))
  have B4 := Lib.hid (keep_ne B1.out (show w.heap.size + 1 ≠ w.heap.size by omega) 11 (.slice (some ⟨g, 0, none⟩) (m - k) c2))
  have S4 := Lib.hid (sr.out.kept (Below.heap_setCell w2 ⟨w.heap.size, 11, none⟩ (.slice (some ⟨g, 0, none⟩) (m - k) c2) g (by show g ≠ w.heap.size; omega)) (by simp [World.setCell]))
  generalize w2.setCell ⟨w.heap.size, 11, none⟩ (.slice (some ⟨g, 0, none⟩) (m - k) c2) = w3 at *
  clear G1 Y1 B1 x0 x1 x2 x3 x4 x5 x6 x7 x8 x9 x10 x11 u0 u1 u2 u3 u4 u5 u6 u7 u8 u9 u10 u11 sr
  have Z0 := Lib.hid (setRow_heap w3 (w.heap.size + 1) _ #[.string ⟨s0.toArray⟩, .string ⟨s1.toArray⟩, .string ⟨s2.toArray⟩, .string ⟨s3.toArray⟩, .int .i64 st, .int .i64 fk, .int .i64 num, .int .i64 den, .int .i64 er, .int .i64 ru, .int .i64 se, .slice (some ⟨g, 0, none⟩) ((m - k)) c2] _ _ B4.out)
  have ZW := Lib.hid (Mid.below_row Y4.out (w.heap.size + 1) #[.string ⟨s0.toArray⟩, .string ⟨s1.toArray⟩, .string ⟨s2.toArray⟩, .string ⟨s3.toArray⟩, .int .i64 st, .int .i64 fk, .int .i64 num, .int .i64 den, .int .i64 er, .int .i64 ru, .int .i64 se, .slice (some ⟨g, 0, none⟩) ((m - k)) c2] (by omega))
  have ZS := Lib.hid (S4.out.kept (w' := w3.setRow (w.heap.size + 1) #[.string ⟨s0.toArray⟩, .string ⟨s1.toArray⟩, .string ⟨s2.toArray⟩, .string ⟨s3.toArray⟩, .int .i64 st, .int .i64 fk, .int .i64 num, .int .i64 den, .int .i64 er, .int .i64 ru, .int .i64 se, .slice (some ⟨g, 0, none⟩) ((m - k)) c2]) (setRow_other _ _ _ _ (by omega)) (by simp [World.setRow]))
  go_wp2_with (first | ((with_reducible refine Mid.ldr 32 (.tmp 3) w.heap.size 32 #[.string ⟨s0.toArray⟩, .string ⟨s1.toArray⟩, .string ⟨s2.toArray⟩, .string ⟨s3.toArray⟩, .int .i64 st, .int .i64 fk, .int .i64 num, .int .i64 den, .int .i64 er, .int .i64 ru, .int .i64 se, .slice (some ⟨g, 0, none⟩) ((m - k)) c2] G4.out ?_ ?_ ?_ ?_ ?_ ?_); (· rfl); (· rfl); (· first | rfl | simp [Act.eval]); (· exact ⟨_, rfl, rfl⟩); (· kernel_rfl)) | ((with_reducible refine Mid.str 32 (.tmp 6) (.tmp 19) (w.heap.size + 1) 32 #[.string ⟨#[]⟩, .string ⟨#[]⟩, .string ⟨#[]⟩, .string ⟨#[]⟩, .int .i64 0, .int .i64 0, .int .i64 0, .int .i64 0, .int .i64 0, .int .i64 0, .int .i64 0, .slice none 0 0] #[.string ⟨s0.toArray⟩, .string ⟨s1.toArray⟩, .string ⟨s2.toArray⟩, .string ⟨s3.toArray⟩, .int .i64 st, .int .i64 fk, .int .i64 num, .int .i64 den, .int .i64 er, .int .i64 ru, .int .i64 se, .slice (some ⟨g, 0, none⟩) ((m - k)) c2] B4.out ?_ ?_ ?_ ?_ ?_ ?_ ?_ ?_); (· rfl); (· rfl); (· first | rfl | simp [Act.eval]); (· first | rfl | simp [Act.eval]); (· kernel_rfl); (· rfl); (· simp [Value.oneCell'])))
  exact bodyPost_ret (results_cell_row rfl _ _ (w.heap.size + 1) _ _ _ _ rfl Z0.out rfl (by rfl) rfl) rfl ⟨⟨g, c2, rfl, ⟨ZS.out, lc.out.symm, by omega, by omega, hc2, hc9, OKc.out⟩, by omega⟩, ZW.out⟩
set_option maxHeartbeats 4000000 in
set_option maxRecDepth 100000 in
theorem sub_any (P : RP s0 s1 s2 s3 st fi num den er ru se) {b n c : Nat} {xs : List Int} {w : World} (X : RX w b n c xs) (k m : Nat) (hk : k < m) (hm : m ≤ n) :
    Calls Try.prog 15 #[.agg #[.string ⟨s0.toArray⟩, .string ⟨s1.toArray⟩, .string ⟨s2.toArray⟩, .string ⟨s3.toArray⟩, .int .i64 st, .int .i64 fi, .int .i64 num, .int .i64 den, .int .i64 er, .int .i64 ru, .int .i64 se, .slice (some ⟨b, 0, none⟩) n c], .int .i64 (k : Int), .int .i64 (m : Int)] w fun e w' => (∃ g c2, e = .returned (.tuple #[.agg #[.string ⟨s0.toArray⟩, .string ⟨s1.toArray⟩, .string ⟨s2.toArray⟩, .string ⟨s3.toArray⟩, .int .i64 st, .int .i64 ((fi + (k : Int))), .int .i64 num, .int .i64 den, .int .i64 er, .int .i64 ru, .int .i64 se, .slice (some ⟨g, 0, none⟩) ((m - k)) c2], .int .i64 0]) ∧ RX w' g (m - k) c2 (cutl xs k m) ∧ w.heap.size < g) ∧ Below w.heap.size w w' := by
  have km : (k : Int) < (m : Int) := by omega
  have mn : (m : Int) ≤ (n : Int) := by omega
  have k0 : (0 : Int) ≤ (k : Int) := by omega
  have q1 : ((k : Int) < 0) = False := by simp
  have q2 : ((k : Int) ≥ (m : Int)) = False := by simp; omega
  have q3 : ((m : Int) > (n : Int)) = False := by simp; omega
  obtain ⟨w0, hw0e⟩ : ∃ w0, w0 = (w.alloc (.cells #[.string ⟨s0.toArray⟩, .string ⟨s1.toArray⟩, .string ⟨s2.toArray⟩, .string ⟨s3.toArray⟩, .int .i64 st, .int .i64 fi, .int .i64 num, .int .i64 den, .int .i64 er, .int .i64 ru, .int .i64 se, .slice (some ⟨b, 0, none⟩) n c] 32)).alloc (.cells #[.string ⟨#[]⟩, .string ⟨#[]⟩, .string ⟨#[]⟩, .string ⟨#[]⟩, .int .i64 0, .int .i64 0, .int .i64 0, .int .i64 0, .int .i64 0, .int .i64 0, .int .i64 0, .slice none 0 0] 32) := ⟨_, rfl⟩
  have eS : (w.alloc (.cells #[.string ⟨s0.toArray⟩, .string ⟨s1.toArray⟩, .string ⟨s2.toArray⟩, .string ⟨s3.toArray⟩, .int .i64 st, .int .i64 fi, .int .i64 num, .int .i64 den, .int .i64 er, .int .i64 ru, .int .i64 se, .slice (some ⟨b, 0, none⟩) n c] 32)).heap.size = w.heap.size + 1 := by simp
  have Y0 : Hid (Below w.heap.size w w0) := Lib.hid (by rw [hw0e]; exact (new_block _).alloc (by simp) _)
  have KA := Lib.hid (show w0.heap[w.heap.size]? = some (.cells #[.string ⟨s0.toArray⟩, .string ⟨s1.toArray⟩, .string ⟨s2.toArray⟩, .string ⟨s3.toArray⟩, .int .i64 st, .int .i64 fi, .int .i64 num, .int .i64 den, .int .i64 er, .int .i64 ru, .int .i64 se, .slice (some ⟨b, 0, none⟩) n c] 32 (0, 0)) by rw [hw0e]; exact (heap_alloc_old _ _ (by simp)).trans (heap_alloc_new w _))
  have KB := Lib.hid (show w0.heap[w.heap.size + 1]? = some (.cells #[.string ⟨#[]⟩, .string ⟨#[]⟩, .string ⟨#[]⟩, .string ⟨#[]⟩, .int .i64 0, .int .i64 0, .int .i64 0, .int .i64 0, .int .i64 0, .int .i64 0, .int .i64 0, .slice none 0 0] 32 (0, 0)) by rw [hw0e, ← eS]; exact heap_alloc_new _ _)
  have VV := Lib.hid (valid_any P (X.keep Y0.out))
  have CO := Lib.hid fun (w' : World) (h' : Below w.heap.size w w') => part_any P (X.keep h') k m hk hm
  clear P X
  obtain ⟨fk, hfk⟩ : ∃ fk, fk = fi + (k : Int) := ⟨_, rfl⟩
  rw [← hfk] at CO ⊢
  replace hfk := Lib.hid hfk
  go_enter Try.func15, Try.ntmps15
  go_upto_region 1 with fail
  rw [← hw0e]
  clear hw0e eS
  obtain ⟨x0, x1, x2, x3, x4, x5, x6, x7, x8, x9, x10, x11⟩ := c12 KA.out
  go_upto_region 5 with (go_at_call 24; with_reducible refine VV.out.mono ?_; rintro e w1 ⟨rfl, hc⟩; (replace KA := Lib.hid (hb hc KA.out)); (replace KB := Lib.hid (hb hc KB.out)); (replace Y0 := Lib.hid (Buf.then_ Y0.out hc)); (clear hc x0 x1 x2 x3 x4 x5 x6 x7 x8 x9 x10 x11); (obtain ⟨x0, x1, x2, x3, x4, x5, x6, x7, x8, x9, x10, x11⟩ := c12 KA.out))
  go_wp2_with (first | ((with_reducible refine Mid.ldr 32 (.tmp 3) w.heap.size 32 #[.string ⟨s0.toArray⟩, .string ⟨s1.toArray⟩, .string ⟨s2.toArray⟩, .string ⟨s3.toArray⟩, .int .i64 st, .int .i64 fi, .int .i64 num, .int .i64 den, .int .i64 er, .int .i64 ru, .int .i64 se, .slice (some ⟨b, 0, none⟩) n c] KA.out ?_ ?_ ?_ ?_ ?_ ?_); (· rfl); (· rfl); (· first | rfl | simp [Act.eval]); (· exact ⟨_, rfl, rfl⟩); (· kernel_rfl)) | (go_at_call 30; with_reducible refine (CO.out _ Y0.out).mono ?_; rintro e w2 ⟨⟨g, c2, rfl, rx, hg2⟩, hc⟩; (have sz1 := (Array.getElem?_eq_some_iff.1 KB.out).1); (replace KA := Lib.hid (hb hc KA.out)); (replace KB := Lib.hid (hb hc KB.out)); (replace Y0 := Lib.hid (Buf.then_ Y0.out hc)); (clear hc x0 x1 x2 x3 x4 x5 x6 x7 x8 x9 x10 x11); (obtain ⟨x0, x1, x2, x3, x4, x5, x6, x7, x8, x9, x10, x11⟩ := c12 KA.out); (have Z0 := Lib.hid (setRow_heap w2 (w.heap.size + 1) _ #[.string ⟨s0.toArray⟩, .string ⟨s1.toArray⟩, .string ⟨s2.toArray⟩, .string ⟨s3.toArray⟩, .int .i64 st, .int .i64 fk, .int .i64 num, .int .i64 den, .int .i64 er, .int .i64 ru, .int .i64 se, .slice (some ⟨g, 0, none⟩) ((m - k)) c2] _ _ KB.out)); (have ZW := Lib.hid (Mid.below_row Y0.out (w.heap.size + 1) #[.string ⟨s0.toArray⟩, .string ⟨s1.toArray⟩, .string ⟨s2.toArray⟩, .string ⟨s3.toArray⟩, .int .i64 st, .int .i64 fk, .int .i64 num, .int .i64 den, .int .i64 er, .int .i64 ru, .int .i64 se, .slice (some ⟨g, 0, none⟩) ((m - k)) c2] (by omega))); (have ZS := Lib.hid (rx.kept (w' := w2.setRow (w.heap.size + 1) #[.string ⟨s0.toArray⟩, .string ⟨s1.toArray⟩, .string ⟨s2.toArray⟩, .string ⟨s3.toArray⟩, .int .i64 st, .int .i64 fk, .int .i64 num, .int .i64 den, .int .i64 er, .int .i64 ru, .int .i64 se, .slice (some ⟨g, 0, none⟩) ((m - k)) c2]) (setRow_other _ _ _ _ (by omega)) (by simp [World.setRow]))); clear rx) | ((with_reducible refine Mid.str 32 (.tmp 6) (.tmp 30) (w.heap.size + 1) 32 #[.string ⟨#[]⟩, .string ⟨#[]⟩, .string ⟨#[]⟩, .string ⟨#[]⟩, .int .i64 0, .int .i64 0, .int .i64 0, .int .i64 0, .int .i64 0, .int .i64 0, .int .i64 0, .slice none 0 0] #[.string ⟨s0.toArray⟩, .string ⟨s1.toArray⟩, .string ⟨s2.toArray⟩, .string ⟨s3.toArray⟩, .int .i64 st, .int .i64 fk, .int .i64 num, .int .i64 den, .int .i64 er, .int .i64 ru, .int .i64 se, .slice (some ⟨g, 0, none⟩) ((m - k)) c2] KB.out ?_ ?_ ?_ ?_ ?_ ?_ ?_ ?_); (· rfl); (· rfl); (· first | rfl | simp [Act.eval]); (· first | rfl | simp [Act.eval]); (· kernel_rfl); (· rfl); (· simp [Value.oneCell'])))
  exact bodyPost_ret (Res.row_tmp rfl _ _ (w.heap.size + 1) _ _ _ _ rfl Z0.out rfl (by rfl) rfl) rfl ⟨⟨g, c2, rfl, ZS.out, by omega⟩, ZW.out⟩
end
end Rec
end Go.Proofs.Yticdjlpabknaiaa
