/- Contract of sender.Push. -/
import Derived.Test.YtganalieljmkmaaSnd
set_option linter.unusedVariables false
namespace Go.Proofs.Ytganalieljmkmaa
open Go.RowKit Wi Dice
namespace Snd
def Pushed (B : Nat) (w : World) (size first : Int) (n : Nat) (ms : List ByteArray) (data : ByteArray) (e : Ending) : Prop :=
  ∃ a' n' cap' ms' f', e = .returned (.tuple #[.agg #[.int .i64 size, .int .i64 f', .slice a' n' cap'], .int .i64 (first + n), .int .i64 0]) ∧ Row B w a' n' cap' ms' ∧
    (((n : Int) + 1 ≤ size ∧ f' = first ∧ ms' = ms ++ [data]) ∨ ((n : Int) = size ∧ f' = first + 1 ∧ ms' = (ms ++ [data]).drop 1))
theorem olds_at {ms : List ByteArray} {j : Nat} {u : Value} (h : (ms.map Value.string)[j]? = some u) : j < ms.length ∧ u = .string (ms.getD j ByteArray.empty) := by
  rw [List.getElem?_map] at h
  cases hc : ms[j]? with
  | none => rw [hc] at h; simp at h
  | some m =>
    rw [hc] at h
    have hj := (List.getElem?_eq_some_iff.1 hc).1
    refine ⟨hj, ?_⟩
    simp at h
    rw [← h, List.getD_eq_getElem?_getD, hc]; rfl
theorem below_gr {B : Nat} {a w w' : World} (hb : Below B a w) (hB : B ≤ w.heap.size) (hg : w.grownBy w' none) : Below B a w' := Below.grown hb hg hB (fun k hk => by cases hk)
/-- What append leaves. -/
theorem row_of {B n : Nat} {w : World} {v : Value} {e : TypeId} {ms : List ByteArray} {d : ByteArray} (hn : n = ms.length) (h : w.ownsRow B e 1 v (n + 1) (ms.map Value.string ++ [.string d])) :
    ∃ g cap, v = .slice (some ⟨g, 0, none⟩) (n + 1) cap ∧ n + 1 ≤ cap ∧ cap ≤ maxLen ∧ B ≤ g ∧ g < w.heap.size ∧ ∀ j, j < n + 1 → w.cell? ⟨g, j, none⟩ = some (.string ((ms ++ [d]).getD j ByteArray.empty)) := by
  have hc := fun g => h.cells (g := g)
  rcases h.2 with ⟨_, h0⟩ | ⟨g, cap, cur, rfl, hb, hg, h1, h2, _⟩
  · omega
  · refine ⟨g, cap, rfl, h1, h2, hb, (Array.getElem?_eq_some_iff.1 hg).1, fun j hj => ?_⟩
    have := hc g rfl j (.string ((ms ++ [d]).getD j ByteArray.empty)) (by
      have e : ms.map Value.string ++ [.string d] = (ms ++ [d]).map Value.string := by simp
      rw [e, List.getElem?_map, List.getD_eq_getElem?_getD]
      cases hh : (ms ++ [d])[j]? with
      | none => rw [List.getElem?_eq_none_iff] at hh; simp at hh; omega
      | some m => rfl)
    rwa [show (⟨g, 0, none⟩ : Addr).add j = ⟨g, j, none⟩ by unfold Addr.add; split <;> simp_all] at this
set_option maxHeartbeats 8000000 in
theorem push_any {B : Nat} {w : World} {a : Option Addr} {n cap : Nat} {ms : List ByteArray} (size first : Int) (data : ByteArray) (gd : Good size first n ms) (hd : data.size ≤ 4064) (h : Row B w a n cap ms) :
    Calls Try.prog 12 #[.agg #[.int .i64 size, .int .i64 first, .slice a n cap], .string data] w fun e w' => Pushed w.heap.size w' size first n ms data e ∧ Below w.heap.size w w' := by
  have HG := Lib.hid gd
  have HR := Lib.hid h
  obtain ⟨s1, s2, f0, f1, le, _⟩ := gd
  obtain ⟨i0, hi, hz0, hz1, hz2⟩ := info_parts infoS
  clear h
  go_enter Try.func12, Try.ntmps12
  go_wp2_with fail
  refine (valid_yes size first HG.out (HR.out.below ((new_block _).alloc (by simp) _))).mono ?_
  rintro e w1 ⟨rfl, hb⟩
  have B1 := Lib.hid hb
  have t2 := Lib.hid ((hb.block w.heap.size (by simp; omega)).trans (two_old _ _ _))
  have t4 := Lib.hid ((hb.block (w.heap.size + 1) (by simp)).trans (two_new _ _ _))
  have R1 := Lib.hid ((HR.out.below ((new_block _).alloc (by simp) _)).below hb)
  have W1 := Lib.hid (((new_block _).alloc (by simp) _).trans (hb.mono (by simp; omega)) : Below w.heap.size w w1)
  obtain ⟨a0, a1, a2⟩ := cells3 t2.out
  clear hb HR
  go_wp2_with fail
  refine (next_any size first f0 f1 (by omega)).mono ?_
  rintro e w2 ⟨rfl, hb⟩
  have e1 : ((first + (n : Int)) == 1073741825) = false := by simp; omega
  have e2 : decide (4064 < (data.size : Int)) = false := by simp; omega
  have c1 : (w2.cell? ⟨w.heap.size + 1, 0, none⟩).isSome = true := by rw [hb.cell (p := ⟨w.heap.size + 1, 0, none⟩) (Array.getElem?_eq_some_iff.1 t4.out).1, (cells3 t4.out).1]; rfl
  have t2' := Lib.hid ((hb.block w.heap.size (Array.getElem?_eq_some_iff.1 t2.out).1).trans t2.out)
  have t4' := Lib.hid ((hb.block (w.heap.size + 1) (Array.getElem?_eq_some_iff.1 t4.out).1).trans t4.out)
  have R2 := Lib.hid (R1.out.below hb)
  have W2 := Lib.hid (Buf.then_ W1.out hb)
  obtain ⟨b0, b1, b2⟩ := cells3 t2'.out
  clear hb t2 t4 R1 W1 a0 a1 a2 B1 c1
  obtain ⟨hn, hr⟩ := R2.out
  replace hn := Lib.hid hn
  clear R2
  have H4 : Hid (n ≤ 256) := Lib.hid (by omega)
  have news : ∀ (j : Nat) (u : Value), [Value.string data][j]? = some u → (w2.alloc (.cells #[.string data] 9)).cell? ((⟨w2.heap.size, 0, none⟩ : Addr).add j) = some u := fun j u hu => by
    cases j with
    | zero => simp at hu; subst hu; exact (World.cell?_alloc_mark w2 #[.string data] 9 (0, 0) 0).trans rfl
    | succ j => simp at hu
  replace news := Lib.hid news
  have one : Hid (∀ u ∈ [Value.string data], u.oneCell' = true) := Lib.hid (by simp; rfl)
  rcases hr with ⟨rfl, rfl, rfl⟩ | ⟨g, off, rfl, hc, hc2, hB, hg, hcell⟩
  · obtain rfl : ms = [] := List.length_eq_zero_iff.1 hn.out.symm
    have d1 : decide (size < 1) = false := by simp; omega
    go_wp2_with (at_builtin; refine wpList_append_grows _ rfl _ _ 23 rfl 9 i0 (.string ⟨#[]⟩) 1 16 Try.underlying23 hi hz0 hz1 hz2 rfl (by decide) none 0 0 [] rfl (fun _ => ⟨rfl, rfl⟩) rfl (fun _ h => by cases h) ⟨w2.heap.size, 0, none⟩ 1 1 [.string data] rfl rfl news.out one.out (by decide) (by decide) (by decide) ?_; intro v' w3 hown hgr; obtain ⟨g3, q3, rfl, k1, k2, k3, k4, k5⟩ := row_of (ms := []) (n := 0) rfl hown; have T2 := (hgr.block w.heap.size (by have := (Array.getElem?_eq_some_iff.1 t2'.out).1; simp; omega) (by simp)).trans ((heap_alloc_old w2 _ (Array.getElem?_eq_some_iff.1 t2'.out).1).trans t2'.out); have T4 := (hgr.block (w.heap.size + 1) (by have := (Array.getElem?_eq_some_iff.1 t4'.out).1; simp; omega) (by simp)).trans ((heap_alloc_old w2 _ (Array.getElem?_eq_some_iff.1 t4'.out).1).trans t4'.out); have hq := (Array.getElem?_eq_some_iff.1 t4'.out).1; obtain ⟨m0, m1, m2⟩ := cells3 T2; obtain ⟨n0, n1, n2⟩ := cells3 T4; replace k2 := Lib.hid k2; replace k5 := Lib.hid k5; obtain ⟨o0, o1, o2⟩ := free3 T2; obtain ⟨p0, p1, p2⟩ := free3 T4; have W3 := Lib.hid (below_gr ((W2.out).alloc (W2.out.size) _) (by have := W2.out.size; simp; omega) hgr); clear T2 T4 hown hgr b0 b1 b2)
    refine bodyPost_ret (v := .tuple #[.agg #[.int .i64 size, .int .i64 first, .slice (some ⟨g3, 0, none⟩) 1 q3], .int .i64 first, .int .i64 0]) (by simp [results, Try.results12, go_sem, n0, n1, n2]) rfl ⟨⟨_, _, _, [data], _, by simp, ⟨by simp, .inr ⟨g3, 0, rfl, k1, k2.out, by simp at k3; omega, by simp; exact k4, fun j hj => ?_⟩⟩, .inl ⟨by simp; omega, rfl, rfl⟩⟩, ?_⟩
    · have f2 : w.heap.size ≠ g3 := by simp at k3; omega
      have f4 : w.heap.size + 1 ≠ g3 := by simp at k3; omega
      repeat (first | rw [far f2] | rw [far f4])
      rw [Nat.zero_add]; exact k5.out j hj
    · repeat (first | exact W3.out | refine Below.setCell ?_ (by simp) _)
  · have holds : Hid (∀ (b : Addr), some (⟨g, off, none⟩ : Addr) = some b → ∀ (j : Nat) (u : Value), (ms.map Value.string)[j]? = some u → (w2.alloc (.cells #[.string data] 9)).cell? (b.add j) = some u) := Lib.hid fun b hb j u hu => by
      cases hb
      obtain ⟨hj, rfl⟩ := olds_at hu
      rw [show (⟨g, off, none⟩ : Addr).add j = ⟨g, off + j, none⟩ by unfold Addr.add; split <;> simp_all, (new_block _).cell (p := ⟨g, off + j, none⟩) hg]
      exact hcell j (by rw [hn.out]; exact hj)
    have hl : Hid ((ms.map Value.string).length = n * 1) := Lib.hid (by rw [List.length_map, Nat.mul_one]; exact hn.out.symm)
    clear hcell
    by_cases hsz : (n : Int) + 1 ≤ size
    · have d1 : decide (size < (n : Int) + 1) = false := by simp; omega
      go_wp2_with (at_builtin; refine wpList_append_grows _ rfl _ _ 23 rfl 9 i0 (.string ⟨#[]⟩) 1 16 Try.underlying23 hi hz0 hz1 hz2 rfl (by decide) (some ⟨g, off, none⟩) n n (ms.map Value.string) rfl (fun h => by cases h) hl.out holds.out ⟨w2.heap.size, 0, none⟩ 1 1 [.string data] rfl rfl news.out one.out (by omega) (by unfold maxLen; omega) (by omega) ?_; intro v' w3 hown hgr; obtain ⟨g3, q3, rfl, k1, k2, k3, k4, k5⟩ := row_of hn.out hown; have T2 := (hgr.block w.heap.size (by have := (Array.getElem?_eq_some_iff.1 t2'.out).1; simp; omega) (by simp)).trans ((heap_alloc_old w2 _ (Array.getElem?_eq_some_iff.1 t2'.out).1).trans t2'.out); have T4 := (hgr.block (w.heap.size + 1) (by have := (Array.getElem?_eq_some_iff.1 t4'.out).1; simp; omega) (by simp)).trans ((heap_alloc_old w2 _ (Array.getElem?_eq_some_iff.1 t4'.out).1).trans t4'.out); have hq := (Array.getElem?_eq_some_iff.1 t4'.out).1; obtain ⟨m0, m1, m2⟩ := cells3 T2; obtain ⟨n0, n1, n2⟩ := cells3 T4; replace k2 := Lib.hid k2; replace k5 := Lib.hid k5; obtain ⟨o0, o1, o2⟩ := free3 T2; obtain ⟨p0, p1, p2⟩ := free3 T4; have W3 := Lib.hid (below_gr ((W2.out).alloc (W2.out.size) _) (by have := W2.out.size; simp; omega) hgr); clear T2 T4 hown hgr b0 b1 b2)
      refine bodyPost_ret (v := .tuple #[.agg #[.int .i64 size, .int .i64 first, .slice (some ⟨g3, 0, none⟩) (n + 1) q3], .int .i64 (first + n), .int .i64 0]) (by simp [results, Try.results12, go_sem, n0, n1, n2]) rfl ⟨⟨_, _, _, ms ++ [data], _, rfl, ⟨by simp; exact hn.out, .inr ⟨g3, 0, rfl, k1, k2.out, by simp at k3; omega, by simp; exact k4, fun j hj => ?_⟩⟩, .inl ⟨hsz, rfl, rfl⟩⟩, ?_⟩
      · have f2 : w.heap.size ≠ g3 := by simp at k3; omega
        have f4 : w.heap.size + 1 ≠ g3 := by simp at k3; omega
        repeat (first | rw [far f2] | rw [far f4])
        rw [Nat.zero_add]; exact k5.out j hj
      · repeat (first | exact W3.out | refine Below.setCell ?_ (by simp) _)
    · have d1 : decide (size < (n : Int) + 1) = true := by simp; omega
      go_wp2_with (at_builtin; refine wpList_append_grows _ rfl _ _ 23 rfl 9 i0 (.string ⟨#[]⟩) 1 16 Try.underlying23 hi hz0 hz1 hz2 rfl (by decide) (some ⟨g, off, none⟩) n n (ms.map Value.string) rfl (fun h => by cases h) hl.out holds.out ⟨w2.heap.size, 0, none⟩ 1 1 [.string data] rfl rfl news.out one.out (by omega) (by unfold maxLen; omega) (by omega) ?_; intro v' w3 hown hgr; obtain ⟨g3, q3, rfl, k1, k2, k3, k4, k5⟩ := row_of hn.out hown; have T2 := (hgr.block w.heap.size (by have := (Array.getElem?_eq_some_iff.1 t2'.out).1; simp; omega) (by simp)).trans ((heap_alloc_old w2 _ (Array.getElem?_eq_some_iff.1 t2'.out).1).trans t2'.out); have T4 := (hgr.block (w.heap.size + 1) (by have := (Array.getElem?_eq_some_iff.1 t4'.out).1; simp; omega) (by simp)).trans ((heap_alloc_old w2 _ (Array.getElem?_eq_some_iff.1 t4'.out).1).trans t4'.out); have hq := (Array.getElem?_eq_some_iff.1 t4'.out).1; obtain ⟨m0, m1, m2⟩ := cells3 T2; obtain ⟨n0, n1, n2⟩ := cells3 T4; replace k2 := Lib.hid k2; replace k5 := Lib.hid k5; obtain ⟨o0, o1, o2⟩ := free3 T2; obtain ⟨p0, p1, p2⟩ := free3 T4; have W3 := Lib.hid (below_gr ((W2.out).alloc (W2.out.size) _) (by have := W2.out.size; simp; omega) hgr); clear T2 T4 hown hgr b0 b1 b2)
      refine bodyPost_ret (v := .tuple #[.agg #[.int .i64 size, .int .i64 (first + 1), .slice (some ⟨g3, 1, none⟩) n n], .int .i64 (first + n), .int .i64 0]) (by simp [results, Try.results12, go_sem, n0, n1, n2]) rfl ⟨⟨_, _, _, (ms ++ [data]).drop 1, _, rfl, ⟨by simp; exact hn.out, .inr ⟨g3, 1, rfl, Nat.le_refl _, by unfold maxLen; omega, by simp at k3; omega, by simp; exact k4, fun j hj => ?_⟩⟩, .inr ⟨by omega, rfl, rfl⟩⟩, ?_⟩
      · have f2 : w.heap.size ≠ g3 := by simp at k3; omega
        have f4 : w.heap.size + 1 ≠ g3 := by simp at k3; omega
        repeat (first | rw [far f2] | rw [far f4])
        rw [k5.out (1 + j) (by omega)]; simp [List.getD_eq_getElem?_getD, Nat.add_comm 1 j]
      · repeat (first | exact W3.out | refine Below.setCell ?_ (by simp) _)
end Snd
end Go.Proofs.Ytganalieljmkmaa
